/- The law's 'do', case by case. -/
import Derived.Test.YtgldgdpgbfejmaaYe
import Derived.Deep.RegionHeld3
namespace Go.Proofs.Ytgldgdpgbfejmaa
open Go.RowKit Go.Lib Go.Conc
set_option linter.unusedVariables false
set_option linter.unusedSimpArgs false
noncomputable def doMid : Code := (Try.f14.body.bind (fromRegion 5)).getD .skip
def actB (dd na ka ta : Nat) (i : Int) (q : Pr) : Array Value := #[.int .u8 dd, .int .u8 na, .int .u8 ka, .int .u8 ta, .int .i64 i, .string q.1, .string q.2]
/-- what stands while an act is carried out -/
structure Ctx (base : Nat) (w : World) (X wb p xb : Nat) (bx : Array Value) (lw tw : Value) (ts : List (Option Nat)) (bl : List Nat) (bs : List NB) : Prop where
  box : Blk w X 29 bx
  li : Li base w wb p xb lw tw ts bl bs
section
variable {base : Nat} {w w' w1 w2 : World} {X wb p c xb : Nat} {bx : Array Value} {lw tw Nv Lv Nv' v' : Value} {ts : List (Option Nat)} {lv : List Bool} {bs : List NB} {ns : List (RN × Value)} {bl : List Nat}
theorem Ctx.chg (h : Ctx base w X wb p xb bx lw tw ts bl bs) {n : Nat} {nb nb' : NB} {r : RN} {own : Bool} (hn : bs[n]? = some nb) (hN : NodeIs base w ts bl nb r) (hc : Chg own nb.b nb.pv nb.kv nb'.b nb'.pv nb'.kv w w1) : Ctx base w1 X wb p xb bx lw tw ts bl (chgL bs own n nb') := by
  refine ⟨h.box.keep hc.keep fun hm => ?_, h.li.change hn hN hc (KeepA.refl base w1)⟩
  have hm' : X ∈ nb.foot := by
    split at hm
    · exact hm
    · cases hm
  obtain ⟨cs, t, e, ht⟩ := hN.types X hm'
  have := h.box
  unfold Blk at this; rw [this] at e; cases e; revert ht; decide
theorem Ctx.ref (h : Ctx base w X wb p xb bx lw tw ts bl bs) (hK : KeepA base w w1) : Ctx base w1 X wb p xb bx lw tw ts bl bs := by
  refine ⟨hK.cellOf h.box (by decide) (by decide), hK.cellOf h.li.blk (by decide) (by decide), h.li.ge, own_keep h.li.l hK.keepX fun x hx e => ?_, own_keep h.li.t hK.keepX fun x hx e => ?_, h.li.lfoot⟩
  · obtain ⟨cs, hcs⟩ := own_cells h.li.l x e
    obtain ⟨cs', t, fr, e', ht⟩ := turnX_mem hx
    rw [hcs] at e'; cases e'; revert ht; decide
  · obtain ⟨cs, hcs⟩ := own_cells h.li.t x e
    obtain ⟨cs', t, fr, e', ht⟩ := turnX_mem hx
    rw [hcs] at e'; cases e'; revert ht; decide
theorem Ctx.below (h : Ctx base w X wb p xb bx lw tw ts bl bs) (hB : Below w.heap.size w w1) : Ctx base w1 X wb p xb bx lw tw ts bl bs := ⟨h.box.below hB, h.li.below hB⟩
end
theorem dropLen (xs : List Pr) (k : ByteArray) : (dropK xs k).length ≤ xs.length := List.length_filter_le _ _
/-- the cells that an act reads -/
def DoS (X wb lg tg k t lc tc tl N : Nat) (kb p xb : Nat) (tv : Value) (dd na ka ta : Nat) (i : Int) (q : Pr) (w : World) : Prop :=
  w.cell? ⟨X, 0, none⟩ = some (.int .u8 dd) ∧ w.cell? ⟨X, 4, none⟩ = some (.int .i64 i) ∧ w.cell? ⟨X, 5, none⟩ = some (.string q.1) ∧ w.cell? ⟨X, 6, none⟩ = some (.string q.2) ∧
  w.cell? ⟨wb, 0, none⟩ = some (.slice (some ⟨lg, 0, none⟩) N lc) ∧ w.cell? ⟨wb, 1, none⟩ = some (.slice (some ⟨tg, 0, none⟩) 5 tc) ∧ w.cell? ⟨wb, 2, none⟩ = some (.pointer (some ⟨p, 0, none⟩)) ∧ w.cell? ⟨wb, 3, none⟩ = some (.pointer (some ⟨xb, 0, none⟩)) ∧
  w.cell? ⟨lg, k, none⟩ = some (.pointer (some ⟨kb, 0, none⟩)) ∧ w.cell? ⟨tg, t, none⟩ = some tv
theorem Ctx.cells {base : Nat} {w : World} {X wb p xb : Nat} {ts : List (Option Nat)} {bl : List Nat} {bs : List NB} {dd na ka ta : Nat} {i : Int} {q : Pr} {lg tg lc tc k t kb N : Nat} (h : Ctx base w X wb p xb (actB dd na ka ta i q) (.slice (some ⟨lg, 0, none⟩) N lc) (.slice (some ⟨tg, 0, none⟩) 5 tc) ts bl bs) (hN : N = bl.length) (hk : bl[k]? = some kb) (ht : t < 5) (hts : ts.length = 5) :
    DoS X wb lg tg k t lc tc 5 N kb p xb (pt (owO ts t)) dd na ka ta i q w := by
  subst hN
  obtain ⟨g, cap, e, hl, hc⟩ := h.li.l.atK k kb hk
  cases e
  have ht' : w.ownsRow base 64 1 (.slice (some ⟨tg, 0, none⟩) 5 tc) 5 (ts.map pt) := h.li.t
  refine ⟨h.box.cell 0, h.box.cell 4, h.box.cell 5, h.box.cell 6, h.li.blk.cell 0, h.li.blk.cell 1, h.li.blk.cell 2, h.li.blk.cell 3, hc, ?_⟩
  rw [ht'.cellAt _ (by omega)]
  have : ts[t]? = some ts[t] := List.getElem?_eq_getElem (by omega)
  simp [owO, this]
end Go.Proofs.Ytgldgdpgbfejmaa
