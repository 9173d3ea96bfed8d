/- Both pools beside one another: what each call of the one leaves of the other. -/
import Derived.Test.YtfipifjlmepooaaTw
namespace Go.Proofs.Ytfipifjlmepooaa
open Go.RowKit Go.Conc
set_option linter.unusedVariables false
set_option linter.unusedSimpArgs false
def lvs (L : TL) : List Bool := L.map (·.2.2)
def idn (L : TL) : List Nat := L.map (·.2.1)
theorem lvs_len (L : TL) : (lvs L).length = L.length := by simp [lvs]
theorem idn_len (L : TL) : (idn L).length = L.length := by simp [idn]
theorem lvs_snoc (L : TL) (t i : Nat) : lvs (L ++ [(t, i, true)]) = lvs L ++ [true] := by simp [lvs]
theorem idn_snoc (L : TL) (t i : Nat) : idn (L ++ [(t, i, true)]) = idn L ++ [i] := by simp [idn]
theorem lvs_get (L : TL) (j : Nat) (x : Nat × Nat × Bool) (h : L[j]? = some x) : (lvs L)[j]? = some x.2.2 := by simp [lvs, h]
theorem idn_get (L : TL) (j : Nat) (x : Nat × Nat × Bool) (h : L[j]? = some x) : (idn L)[j]? = some x.2.1 := by simp [idn, h]
theorem lvs_set (L : TL) (j : Nat) (x : Nat × Nat × Bool) : lvs (L.set j (x.1, x.2.1, false)) = (lvs L).set j false := by simp [lvs, List.map_set]
theorem idn_set (L : TL) (j : Nat) (x : Nat × Nat × Bool) (h : L[j]? = some x) : idn (L.set j (x.1, x.2.1, false)) = idn L := by
  obtain ⟨hl, he⟩ := List.getElem?_eq_some_iff.1 h
  unfold idn
  rw [List.map_set]
  apply List.ext_getElem (by simp)
  intro n h1 h2
  rw [List.getElem_set]
  split
  · rename_i e; subst e; simp [he]
  · rfl
section
variable {base : Nat} {w w' : World} {x N : Nat} {vr vl vi : Value} {q : List Nat} {lv : List Bool} {is : List Nat}
theorem RefP.take (h : RefP base w x N vr vl vi q lv is) {p c k : Nat} {out : Int} {q' : List Nat} (hP : Pool w p c k out q') (hk : Keep [p, c] w w') : RefP base w' x N vr vl vi q lv is :=
  h.keep hk (by
    intro b hb
    simp only [List.mem_cons, List.not_mem_nil, or_false] at hb
    rcases hb with rfl | rfl
    · exact hP.other.1
    · exact hP.other.2)
theorem RefP.end_ (h : RefP base w x N vr vl vi q lv is) {p c k t p' i : Nat} {out : Int} {q' : List Nat} {l : Bool} (hP : Pool w p c k out q') (hT : Tok w t p' i l) (hk : Keep [p, c, t] w w') : RefP base w' x N vr vl vi q lv is :=
  h.keep hk (by
    intro b hb
    simp only [List.mem_cons, List.not_mem_nil, or_false] at hb
    rcases hb with rfl | rfl | rfl
    · exact hP.other.1
    · exact hP.other.2
    · exact hT.other)
theorem RefP.grownT (h : RefP base w x N vr vl vi q lv is) {b n : Nat} {v : Value} {xs : List Value} {o : Obj} (hrow : w.ownsRow b 57 1 v n xs) (hg : (w.alloc o).grownBy w' v.ownBlock) : RefP base w' x N vr vl vi q lv is := by
  have h2 := h.alloc o
  have hb := h.blk
  have hx : v.ownBlock ≠ some x := own_ne hrow (fun cur e => by unfold Blk at hb; rw [hb] at e; cases e)
  refine ⟨(hg.block x h2.blk.lt (Ne.symm hx)).trans h2.blk, h.ge, h2.row.kept hg ?_, h2.live.kept hg ?_, h2.ids.kept hg ?_, h.apart⟩
  · rcases hv : vr.ownBlock with _ | g
    · exact .inl rfl
    · exact .inr fun e => own_apart h.row hrow (by decide) g hv e.symm
  · rcases hv : vl.ownBlock with _ | g
    · exact .inl rfl
    · exact .inr fun e => own_apart h.live hrow (by decide) g hv e.symm
  · rcases hv : vi.ownBlock with _ | g
    · exact .inl rfl
    · exact .inr fun e => own_apart h.ids hrow (by decide) g hv e.symm
/-- what is read of token j -/
theorem RefP.at (h : RefP base w x N vr vl vi q lv is) (j : Nat) (b : Bool) (i : Nat) (hb : lv[j]? = some b) (hi : is[j]? = some i) :
    ∃ gl cl gi ci, vl = .slice (some ⟨gl, 0, none⟩) lv.length cl ∧ vi = .slice (some ⟨gi, 0, none⟩) is.length ci ∧ w.cell? ⟨gl, j, none⟩ = some (.bool b) ∧ w.cell? ⟨gi, j, none⟩ = some (.int .i64 i) ∧ w.cell? ⟨x, 2, none⟩ = some vl ∧ w.cell? ⟨x, 3, none⟩ = some vi ∧ j < lv.length ∧ j < is.length := by
  obtain ⟨⟨k1, k2, k3⟩, -⟩ := h.cells
  obtain ⟨gl, cl, e1, hc, hf, hlt⟩ := own_at h.live (bools_get lv j b hb)
  obtain ⟨gi, ci, e2, hc2, hf2, hlt2⟩ := own_at h.ids (nums_get is j i hi)
  exact ⟨gl, cl, gi, ci, e1, e2, hc, hc2, k2, k3, hlt, hlt2⟩
theorem RefP.drewN (h : RefP base w x N vr vl vi q lv is) (n : Nat) : RefP base (w.drewN n) x N vr vl vi q lv is := ⟨h.blk, h.ge, h.row, h.live, h.ids, h.apart⟩
end
theorem Toks.drewN {base : Nat} {w : World} {p : Nat} {v : Value} {L : TL} (h : Toks base w p v L) (n : Nat) : Toks base (w.drewN n) p v L := ⟨h.row, h.tok, h.nd⟩
theorem Pool.drewN {w : World} {p c k : Nat} {out : Int} {q : List Nat} (h : Pool w p c k out q) (n : Nat) : Pool (w.drewN n) p c k out q := h
theorem below_drewT {B : Nat} {a w : World} (h : Below B a w) (n : Nat) : Below B a (w.drewN n) := ⟨h.os, h.tape, h.output, h.size, h.block⟩
theorem id_q {t p id : Nat} {l : Bool} {w : World} (h : Tok w t p id l) (n : Nat) : Calls Try.prog 35 #[.pointer (some ⟨t, 0, none⟩)] (w.drewN n) fun e w' => e = .returned (.int .i64 id) ∧ w' = w.drewN n :=
  (id_any t p id l (w.drewN n) h).mono fun e w' ⟨h1, h2⟩ => ⟨h1, h2.symm⟩
theorem live_q {t p id : Nat} {l : Bool} {w : World} (h : Tok w t p id l) (n : Nat) : Calls Try.prog 38 #[.pointer (some ⟨t, 0, none⟩)] (w.drewN n) fun e w' => e = .returned (.bool l) ∧ w' = w.drewN n :=
  (live_any t p id l (w.drewN n) h).mono fun e w' ⟨h1, h2⟩ => ⟨h1, h2.symm⟩
end Go.Proofs.Ytfipifjlmepooaa
