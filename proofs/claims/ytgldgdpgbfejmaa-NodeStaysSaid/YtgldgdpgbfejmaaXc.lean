/- The reference's own: a copy. -/
import Derived.Test.YtgldgdpgbfejmaaMX
import Derived.Test.YtgldgdpgbfejmaaMT
import Derived.Test.YtgldgdpgbfejmaaMQ
import Derived.Deep.AppendLies
import Derived.Great.BuildSlice
namespace Go.Proofs.Ytgldgdpgbfejmaa
open Go.RowKit Go.Lib
set_option linter.unusedVariables false
set_option linter.unusedSimpArgs false
theorem OwnR.below {base : Nat} {w w' : World} {v : Value} {xs : List Pr} (h : OwnR base w v xs) (hb : Below w.heap.size w w') : OwnR base w' v xs := own_keep h (Keep.of_below (X := []) hb) (by simp)
section
variable {base : Nat} {w w' : World} {xb : Nat} {Nv Lv : Value} {ns : List (RN × Value)} {lv : List Bool}
theorem RefA.keepT (h : RefA base w xb Nv Lv ns lv) {X : List Nat} (hk : Keep X w w') (hX : ∀ x ∈ X, ∀ cs t, w.heap[x]? = some (.cells cs t (0, 0)) → t ≠ 89 ∧ t ≠ 85 ∧ t ≠ 4 ∧ t ≠ 81) : RefA base w' xb Nv Lv ns lv := by
  refine ⟨h.blk.keep hk fun hm => (hX xb hm _ _ h.blk).1 rfl, h.ge, own_keep h.nodes hk fun x hx e => ?_, own_keep h.live hk fun x hx e => ?_, fun n hn => own_keep (h.ls n hn) hk fun x hx e => ?_⟩
  · obtain ⟨cs, hc⟩ := own_cells h.nodes x e; exact (hX x hx _ _ hc).2.1 rfl
  · obtain ⟨cs, hc⟩ := own_cells h.live x e; exact (hX x hx _ _ hc).2.2.1 rfl
  · obtain ⟨cs, hc⟩ := own_cells (h.ls n hn) x e; exact (hX x hx _ _ hc).2.2.2 rfl
theorem RefA.below (h : RefA base w xb Nv Lv ns lv) (hb : Below w.heap.size w w') : RefA base w' xb Nv Lv ns lv := h.keepT (Keep.of_below (X := []) hb) (by simp)
theorem RefA.drewN (h : RefA base w xb Nv Lv ns lv) (n : Nat) : RefA base (w.drewN n) xb Nv Lv ns lv := ⟨h.blk, h.ge, h.nodes, h.live, h.ls⟩
end
theorem KeepA.refl (base : Nat) (w : World) : KeepA base w w := ⟨Below.refl _ _, fun _ _ _ _ => rfl⟩
theorem KeepA.ofBelow {base : Nat} {w w' : World} (h : Below w.heap.size w w') (hb : base ≤ w.heap.size) : KeepA base w w' := ⟨h.mono hb, fun i hi _ _ => h.block i hi⟩
theorem KeepA.trans {base : Nat} {a b c : World} (h : KeepA base a b) (k : KeepA base b c) : KeepA base a c :=
  ⟨h.below.trans k.below, fun i hi h1 h2 => by
    have e := h.block i hi h1 h2
    exact (k.block i (Nat.lt_of_lt_of_le hi h.below.size) (by rw [e]; exact h1) (by rw [e]; exact h2)).trans e⟩
/-- a copy of a list of pairs, behind an empty one -/
theorem copyL (w : World) (vl : Value) (L : List Pr) (base : Nat) (h : OwnR base w vl L) (hn : L.length ≤ 900) : ∃ v' w', (Builtin.append_ #[83, 83] 83 #[.slice (some ⟨w.heap.size, 0, none⟩) 0 0, vl]).run Try.prog (w.alloc (.cells #[] 81)) = .ok v' w' ∧ OwnR w.heap.size w' v' L ∧ Below w.heap.size w w' := by
  obtain ⟨i0, hi, hz0, hz1, hz2⟩ := info_parts info40
  have hlit : (w.alloc (.cells #[] 81)).ownsRow w.heap.size 81 2 (.slice (some ⟨w.heap.size, 0, none⟩) 0 0) 0 [] := World.ownsRow_lit w #[] 0 (Nat.le_refl _) (Nat.zero_le _) rfl
  have hB := (Below.refl w.heap.size w).alloc (Nat.le_refl _) (.cells #[] 81)
  rcases own_nil_or h with ⟨h1, h0⟩ | ⟨g, cap, h1⟩
  · obtain rfl := List.length_eq_zero_iff.1 h0
    refine ⟨_, _, by rw [h1]; exact run_append_owned_none (P := Try.prog) _ w.heap.size 83 83 81 i0 2 Try.underlying83 hi _ 0 [] hlit, hlit, hB⟩
  · subst h1
    have hh : (w.alloc (.cells #[] 81)).ownsRow base 81 2 (.slice (some ⟨g, 0, none⟩) L.length cap) L.length (flat L) := World.ownsRow.alloc h _
    have hcells : ∀ j u, (flat L)[j]? = some u → (w.alloc (.cells #[] 81)).cell? ((⟨g, 0, none⟩ : Addr).add j) = some u := fun j u hu => by
      have hl := (List.getElem?_eq_some_iff.1 hu).1
      rw [flat_length] at hl
      rw [addr_at, Nat.zero_add, hh.cellAt j hl]; exact hu
    obtain ⟨v', w', hr, ho, hg, -, -⟩ := run_append_own_at (P := Try.prog) (w.alloc (.cells #[] 81)) w.heap.size 83 83 81 i0 _ 2 32 Try.underlying83 hi hz0 hz1 hz2 zsz_pairs (by decide) _ 0 [] hlit ⟨g, 0, none⟩ L.length cap (flat L) (flat_length L) hcells (flat_one L) (by unfold maxLen; omega) (by omega) (by simp)
    refine ⟨v', w', hr, ?_, hB.grown hg (by simp) (own_ge hlit)⟩
    unfold OwnR
    simpa using ho
theorem fold_set (l : List Value) : ∀ (k : Nat) (A : Array Value), k + l.length ≤ A.size → ∀ i, ((l.zipIdx k).foldl (fun cs (x : Value × Nat) => cs.setIfInBounds (0 + x.2) x.1) A)[i]? = if k ≤ i ∧ i < k + l.length then l[i - k]? else A[i]? := by
  induction l with
  | nil => intro k A _ i; simp; intro h1 h2; omega
  | cons v r ih =>
    intro k A hk i
    rw [List.zipIdx_cons, List.foldl_cons, ih (k + 1) _ (by simp at hk ⊢; omega) i]
    simp only [List.length_cons] at hk ⊢
    by_cases h1 : k + 1 ≤ i ∧ i < k + 1 + r.length
    · rw [if_pos h1, if_pos (by omega), show i - k = (i - (k + 1)) + 1 by omega, List.getElem?_cons_succ]
    · rw [if_neg h1, Array.getElem?_setIfInBounds, Nat.zero_add]
      by_cases h2 : k = i
      · subst h2
        rw [if_pos rfl, if_pos (by omega), if_pos (by omega), Nat.sub_self]; rfl
      · rw [if_neg h2, if_neg (by omega)]
theorem fill_whole (cs : List Value) (S : Nat) (Z : Array Value) (hc : cs.length = S) (hz : Z.size = S) : Instr.fill (fun i => some (i * S, S)) Z [(0, .agg cs.toArray)] = some cs.toArray := by
  have e : Value.cells (.agg cs.toArray) = cs.toArray := by simp [Value.cells]
  unfold Instr.fill
  simp only [Nat.zero_mul]
  rw [e]
  rw [if_neg (by simp; omega)]
  unfold Instr.fill
  congr 1
  apply Array.ext_getElem?
  intro i
  have := fold_set cs 0 Z (by omega) i
  rw [show (cs.toArray.zipIdx.foldl (fun cs x => match x with | (c, j) => cs.setIfInBounds (0 + j) c) Z) = ((cs.zipIdx 0).foldl (fun cs (x : Value × Nat) => cs.setIfInBounds (0 + x.2) x.1) Z) by simp, this]
  rcases Nat.lt_or_ge i cs.length with h | h
  · rw [if_pos (by omega)]; simp
  · rw [if_neg (by omega), Array.getElem?_eq_none (by omega), Array.getElem?_eq_none (by simp; omega)]
theorem late_noR {b : Bool} {p : Prop} (h : b = true) : b = false → p := fun e => by rw [h] at e; cases e
theorem zc85 : Try.zeroCells85.size = 131 := by decide +kernel
theorem chk85_ok : (match Try.prog.info? 85 with
  | some i => (match i.zero with
    | some z => z.cells.size == 131
    | none => false) && i.size == 131 && i.bytes == 1576
  | none => false) = true := by kernel_rfl
theorem rcells_setOw0 (r : RN) (vl : Value) : (rcells r vl).set 130 (.int .i64 0) = rcells { r with ow := 0 } vl := rcells_setOw r vl 0
theorem info85z : ∃ i z, Try.prog.info? 85 = some i ∧ i.zero = some z ∧ i.size = 131 ∧ i.bytes = 1576 ∧ z.cells.size = 131 := by
  have h := chk85_ok
  cases hi : Try.prog.info? 85 with
  | none => rw [hi] at h; cases h
  | some i =>
    rw [hi] at h
    cases hz : i.zero with
    | none => simp [hz] at h
    | some z =>
      simp [hz] at h
      exact ⟨i, z, rfl, hz, h.1.2, h.2, h.1.1⟩
theorem RefA.setFresh {base : Nat} {w : World} {xb : Nat} {Nv Lv : Value} {ns : List (RN × Value)} {lv : List Bool} (h : RefA base w xb Nv Lv ns lv) {N : Nat} {cs : Array Value} (hb : Blk w N 85 cs) (hne : Nv.ownBlock ≠ some N) (i : Nat) (u : Value) : RefA base (w.setCell ⟨N, i, none⟩ u) xb Nv Lv ns lv := by
  have hx : xb ≠ N := fun e => by
    have h1 := h.blk
    rw [e] at h1
    unfold Blk at h1 hb
    rw [hb] at h1; cases h1
  refine ⟨h.blk.far (p := ⟨N, i, none⟩) hx u, h.ge, ownsRow_setCell_other h.nodes hne u, ownsRow_setCell_other h.live (own_ne h.live fun cur e => ?_) u, fun n hn => ownsRow_setCell_other (h.ls n hn) (own_ne (h.ls n hn) fun cur e => ?_) u⟩
  · unfold Blk at hb; rw [hb] at e; cases e
  · unfold Blk at hb; rw [hb] at e; cases e
theorem info85 : (Try.prog.info? 85).map (fun i => (i.size, i.bytes)) = some (131, 1576) := by kernel_rfl

/-- what a copy leaves -/
def OwnPost (base xb : Nat) (Lv : Value) (ns : List (RN × Value)) (lv : List Bool) (rn : RN) (w : World) (e : Ending) (w' : World) : Prop :=
  ∃ Nv' vl, e = .returned (.int .i64 ns.length) ∧ RefA base w' xb Nv' Lv (ns ++ [(rn, vl)]) lv ∧ KeepA base w w'

set_option maxRecDepth 100000 in
set_option maxHeartbeats 8000000 in
theorem own_other (base xb n who : Nat) (Nv Lv : Value) (ns : List (RN × Value)) (lv : List Bool) (r : RN × Value) (w : World) (h : RefA base w xb Nv Lv ns lv) (hr : ns[n]? = some r) (hw : 0 < who) (hl : lv[who]? = some true) (ho : r.1.ow ≠ who) (hn : ns.length ≤ 1000) (hln : lv.length ≤ 1000) (hL : r.1.L.length ≤ 900) (hbase : base ≤ w.heap.size) :
    Calls Try.prog 67 #[at0 xb, .int .i64 n, .int .i64 who] w (OwnPost base xb Lv ns lv { r.1 with ow := who } w) := by
  obtain ⟨c0, c1⟩ := h.cells
  obtain ⟨g, cap, rfl, hlt, hrg, hfz⟩ := h.node n r hr
  have hvl := h.ls r (List.mem_of_getElem? hr)
  obtain ⟨gl, cl, rfl, hll, hcl⟩ := h.liveAt who true hl
  have B1 : (who : Int) < (lv.length : Int) := by omega
  have B3 : (0 : Int) < (who : Int) := by omega
  have hne : ((r.1.ow : Int) == (who : Int)) = false := by rw [beq_eq_false_iff_ne]; intro e; exact ho (by omega)
  have hcw : w.cell? ⟨g, n * 131 + 130, none⟩ = some (.int .i64 (r.1.ow : Nat)) := by
    have := hrg 130 _ (rcells_get r.1 r.2 130 (by omega))
    rw [this, rcell_ow]
  have B2 : (n : Int) < (ns.length : Int) := by omega
  have hs85 : (Try.prog.info? 85).map (·.size) = some (rcells r.1 r.2).length := by rw [rcells_len]; exact size85
  -- the copy
  have hBZ := Blk.new w 85 Try.zeroCells85
  have hvl1 : r.2.oneCell' = true := by
    rcases hvl.2 with ⟨e, _⟩ | ⟨_, _, _, e, _⟩ <;> rw [e] <;> rfl
  obtain ⟨W1, hW1⟩ : ∃ W1, W1 = (w.alloc (.cells Try.zeroCells85 85)).setRow w.heap.size (rcells r.1 r.2).toArray := ⟨_, rfl⟩
  have hst : (storeCells ⟨w.heap.size, 0, none⟩ (rcells r.1 r.2)).run Try.prog (w.alloc (.cells Try.zeroCells85 85)) = .ok () W1 := by
    have := run_storeCells_at Try.prog w.heap.size 0 85 (rcells r.1 r.2) 0 Try.zeroCells85 _ hBZ (by rw [rcells_len, zc85]; omega) (rcells_one r.1 r.2 hvl1)
    rw [this, hW1]
    have e0 : (Try.zeroCells85.toList.take (0 + 0) ++ rcells r.1 r.2 ++ Try.zeroCells85.toList.drop (0 + 0 + (rcells r.1 r.2).length)) = rcells r.1 r.2 := by
      rw [rcells_len, List.drop_of_length_le (by rw [Array.length_toList, zc85]; omega), List.append_nil]; rfl
    rw [e0]
  have hB1 : Blk W1 w.heap.size 85 (rcells r.1 r.2).toArray := by rw [hW1]; exact hBZ.row _
  have hBe1 : Below w.heap.size w W1 := by rw [hW1]; exact below_setRow ((Below.refl _ w).alloc (Nat.le_refl _) _) (Nat.le_refl _) _
  have hA1 := h.below hBe1
  have hvlA := hvl.below hBe1
  have hsz1 : w.heap.size < W1.heap.size := hB1.lt
  obtain ⟨N, hN⟩ : ∃ N, N = w.heap.size := ⟨_, rfl⟩
  rw [← hN] at hst hB1 hsz1
  have hN0 : w.heap.size = N := hN.symm
  clear hW1
  obtain ⟨v2, W2, hcop, hO2, hBe2⟩ := copyL W1 r.2 r.1.L base hvlA hL
  obtain ⟨A2, n2, q2, rfl⟩ : ∃ A n c, v2 = .slice A n c := by
    rcases hO2.2 with ⟨e, _⟩ | ⟨_, _, _, e, _⟩
    · exact ⟨_, _, _, e⟩
    · exact ⟨_, _, _, e⟩
  have hA2 := hA1.below hBe2
  have hB2 := hB1.below hBe2
  have k129 : (W1.alloc (.cells #[] 81)).cell? ⟨N, 129, none⟩ = some r.2 := by
    rw [(hB1.alloc _).cell 129]
    have := rcells_get r.1 r.2 129 (by omega)
    rw [rcell_l] at this
    simpa using this
  obtain ⟨rn, hrn⟩ : ∃ rn : RN, rn = { r.1 with ow := who } := ⟨_, rfl⟩
  have f129 := hB2.frozen 129
  have f130 := hB2.frozen 130
  have k129b : (W2.cell? ⟨N, 129, none⟩).isSome = true := by
    rw [hB2.cell 129, show (rcells r.1 r.2).toArray[129]? = (rcells r.1 r.2)[129]? by simp, rcells_get _ _ _ (by omega)]; rfl
  have k130b : W2.cell? ⟨N, 130, none⟩ = some (.int .i64 (r.1.ow : Nat)) := by
    rw [hB2.cell 130, show (rcells r.1 r.2).toArray[130]? = (rcells r.1 r.2)[130]? by simp, rcells_get _ _ _ (by omega), rcell_ow]
  obtain ⟨u129, hu129⟩ := Option.isSome_iff_exists.1 k129b
  have HA1 := Lib.hid hA1
  have HA2 := Lib.hid hA2
  have HB2 := Lib.hid hB2
  have HO2 := Lib.hid hO2
  have HBe := Lib.hid (hBe1.trans (hBe2.mono hBe1.size))
  have HN := Lib.hid hN
  have HRN := Lib.hid hrn
  have HH := Lib.hid h
  have HZ := Lib.hid hsz1
  clear hA1 hA2 hO2 hB1 hBe1 hBe2 hvl hvlA hvl1 hBZ h hr hfz hN hrn k129b hsz1 hlt
  clear hB2
  unfold at0
  go_enter Try.func67, Try.ntmps67
  go_upto_region 9 with (first
    | (with_reducible refine wpList_load_mid rfl 85 _ rfl g (n * 131) rfl (rcells r.1 r.2) _ hrg Try.underlying85 rfl hs85 ?_)
    | (at_builtin; refine Lib.wpList_append_run _ rfl _ _ _ _ rfl _ _ rfl rfl _ _ hcop ?_))
  have hg := HH.out.nodes
  have hgN : (Value.slice (some ⟨g, 0, none⟩) ns.length cap).ownBlock ≠ some N := fun e => by have := (World.ownsRow.lt HH.out.nodes _ e).2; have := HN.out; omega
  have hA3a := (HA2.out.setFresh HB2.out hgN 129 (.slice A2 n2 q2)).setFresh (HB2.out.set_ 129 (.slice A2 n2 q2)) hgN 130 (.int .i64 0)
  have hB3a := (HB2.out.set_ 129 (.slice A2 n2 q2)).set_ 130 (.int .i64 0)
  have hBea := ((HBe.out.setCell (p := ⟨N, 129, none⟩) (by rw [HN.out]; exact Nat.le_refl _) (.slice A2 n2 q2)).setCell (p := ⟨N, 130, none⟩) (by rw [HN.out]; exact Nat.le_refl _) (.int .i64 0))
  have hlr : OwnR base ((W2.setCell ⟨N, 129, none⟩ (.slice A2 n2 q2)).setCell ⟨N, 130, none⟩ (.int .i64 0)) (.slice A2 n2 q2) r.1.L := by
    have e1 : (Value.slice A2 n2 q2).ownBlock ≠ some N := own_ne HO2.out (fun cur e => by have hb := HB2.out; unfold Blk at hb; rw [hb] at e; cases e)
    exact ownsRow_setCell_other (ownsRow_setCell_other (HO2.out.base (Nat.le_trans hbase (Nat.le_trans (Nat.le_of_eq HN.out.symm) (Nat.le_of_lt HZ.out)))) e1 _) e1 _
  simp only [List.setIfInBounds_toArray] at hB3a
  rw [rcells_setL r.1 r.2 (.slice A2 n2 q2) r.1.L, rcells_setOw0] at hB3a
  have hB3 : Blk (((W2.setCell ⟨N, 129, none⟩ (.slice A2 n2 q2)).setCell ⟨N, 130, none⟩ (.int .i64 0)).setCell ⟨N, 130, none⟩ (.int .i64 (who : Nat))) N 85 (rcells rn (.slice A2 n2 q2)).toArray := by
    have hh := hB3a.set_ 130 (.int .i64 (who : Nat))
    simp only [List.setIfInBounds_toArray] at hh
    rw [rcells_setOw] at hh
    rw [HRN.out]
    exact hh
  have hA3 := hA3a.setFresh (by exact hB3a) hgN 130 (.int .i64 (who : Nat))
  have hBe3 := hBea.setCell (p := ⟨N, 130, none⟩) (by rw [HN.out]; exact Nat.le_refl _) (.int .i64 (who : Nat))
  have hlr3 : OwnR base (((W2.setCell ⟨N, 129, none⟩ (.slice A2 n2 q2)).setCell ⟨N, 130, none⟩ (.int .i64 0)).setCell ⟨N, 130, none⟩ (.int .i64 (who : Nat))) (.slice A2 n2 q2) r.1.L := ownsRow_setCell_other hlr (own_ne hlr (fun cur e => by unfold Blk at hB3a; rw [hB3a] at e; cases e)) _
  generalize (((W2.setCell ⟨N, 129, none⟩ (.slice A2 n2 q2)).setCell ⟨N, 130, none⟩ (.int .i64 0)).setCell ⟨N, 130, none⟩ (.int .i64 (who : Nat))) = W3 at *
  have hrow3 : W3.drew.rangeAt N 0 (rcells rn (.slice A2 n2 q2)) := fun j u hu => by
    rw [Nat.zero_add]
    have := hB3.cell j
    rw [show W3.drew.cell? ⟨N, j, none⟩ = W3.cell? ⟨N, j, none⟩ from rfl, this]
    simpa using hu
  obtain ⟨i85, z85, hi85, hz85, hz85s, hz85b, hz85c⟩ := info85z
  have hs85' : (Try.prog.info? 85).map (·.size) = some (rcells rn (.slice A2 n2 q2)).length := by rw [rcells_len]; exact size85
  have hA3d : RefA base W3.drew xb (.slice (some ⟨g, 0, none⟩) ns.length cap) (.slice (some ⟨gl, 0, none⟩) lv.length cl) ns lv := hA3.drewN 1
  have hBed : Below w.heap.size w W3.drew := hBe3.drew
  have hlrd : OwnR base W3.drew (.slice A2 n2 q2) r.1.L := hlr3
  have hgrow0 := hA3d.nodes
  have hS : (fun w' : World => w'.cell? ⟨xb, 0, none⟩ = some (.slice (some ⟨g, 0, none⟩) ns.length cap) ∧ w'.rangeAt N 0 (rcells rn (.slice A2 n2 q2))) W3.drew := ⟨hA3d.cells.1, hrow3⟩
  clear hA3 hB3 hBe3 hlr3 hA3a hB3a hBea hlr c0 c1 hcop hst k129 f129 f130 k130b hu129 hrow3
  refine wp_region_late (S := fun w' => w'.cell? ⟨xb, 0, none⟩ = some (.slice (some ⟨g, 0, none⟩) ns.length cap) ∧ w'.rangeAt N 0 (rcells rn (.slice A2 n2 q2))) (st := 10) (by kernel_rfl) ?_
  generalize W3.drew = W at *
  refine wpAnyL_take0 (i := 0) (oi := { dst := some 50, op := Go.Op.move (Go.Operand.tmp 0), type := 34, pos := "ref.go:34", after := #[], guard := none }) (v := .pointer (some ⟨xb, 0, none⟩)) rfl (by kernel_rfl) (by kernel_rfl) (by kernel_rfl) (by kernel_rfl) (fun _ _ _ h => h) hS (Or.inl ⟨by rfl, fun w hSw => ?_⟩) ?_
  · go_split_ands
    go_simp
  try simp only [Act.put, List.setIfInBounds_toArray, List.set_cons_zero, List.set_cons_succ]
  refine wpAnyL_take0 (i := 1) (oi := { dst := some 51, op := Go.Op.move (Go.Operand.tmp 0), type := 34, pos := "ref.go:34", after := #[], guard := none }) (v := .pointer (some ⟨xb, 0, none⟩)) rfl (by kernel_rfl) (by kernel_rfl) (by kernel_rfl) (by kernel_rfl) (fun _ _ _ h => h) hS (Or.inl ⟨by rfl, fun w hSw => ?_⟩) ?_
  · go_split_ands
    go_simp
  try simp only [Act.put, List.setIfInBounds_toArray, List.set_cons_zero, List.set_cons_succ]
  refine wpAnyL_take0 (i := 2) (oi := { dst := some 52, op := Go.Op.nilCheck (Go.Operand.tmp 51), type := 0, pos := "ref.go:34", after := #[{ on := 1, ground := Go.Ground.data }], guard := none }) (v := .pointer (some ⟨xb, 0, none⟩)) rfl (by kernel_rfl) (by kernel_rfl) (by kernel_rfl) (by kernel_rfl) (fun _ _ _ h => h) hS (Or.inl ⟨by rfl, fun w hSw => ?_⟩) ?_
  · go_split_ands
    go_simp
  try simp only [Act.put, List.setIfInBounds_toArray, List.set_cons_zero, List.set_cons_succ]
  refine wpAnyL_take0 (i := 3) (oi := { dst := some 53, op := Go.Op.fieldAddr 89 (Go.Operand.tmp 52) 0, type := 0, pos := "ref.go:34", after := #[{ on := 2, ground := Go.Ground.data }], guard := none }) (v := .pointer (some ⟨xb, 0, none⟩)) rfl (by kernel_rfl) (by kernel_rfl) (by kernel_rfl) (by kernel_rfl) (fun _ _ _ h => h) hS (Or.inl ⟨by rfl, fun w hSw => ?_⟩) ?_
  · go_split_ands
    go_simp
  try simp only [Act.put, List.setIfInBounds_toArray, List.set_cons_zero, List.set_cons_succ]
  refine wpAnyL_take (i := 4) (oi := { dst := some 54, op := Go.Op.load 86 (Go.Operand.tmp 53), type := 86, pos := "ref.go:34", after := #[{ on := 3, ground := Go.Ground.data }], guard := none }) (v := .slice (some ⟨g, 0, none⟩) ns.length cap) rfl (by kernel_rfl) (by kernel_rfl) (by kernel_rfl) (by kernel_rfl) (fun _ _ _ h => h) hS (Or.inl ⟨by rfl, fun w hSw => ?_⟩) ?_
  · go_split_ands
    go_simp
  try simp only [Act.put, List.setIfInBounds_toArray, List.set_cons_zero, List.set_cons_succ]
  refine wpAnyL_take (i := 5) (oi := { dst := some 55, op := Go.Op.load 85 (Go.Operand.tmp 8), type := 85, pos := "ref.go:34", after := #[], guard := none }) (v := .agg (rcells rn (.slice A2 n2 q2)).toArray) rfl (by kernel_rfl) (by kernel_rfl) (by kernel_rfl) (by kernel_rfl) (fun _ _ _ h => h) hS (yieldsIf_load_mid (by rfl) 85 _ rfl N 0 rfl (rcells rn (.slice A2 n2 q2)) _ (fun w hSw => hSw.2) Try.underlying85 rfl hs85') ?_
  try simp only [Act.put, List.setIfInBounds_toArray, List.set_cons_zero, List.set_cons_succ]
  refine wpAnyL_ready (rs := [6]) (by kernel_rfl) (by simp) ?_
  refine AllReadyL.cons (o := { dst := some 56, op := Go.Op.buildSlice 86 1 #[(0, Go.Operand.tmp 55)], type := 86, pos := "ref.go:34", after := #[{ on := 5, ground := Go.Ground.data }], guard := none }) rfl (fun K hK => ?_) AllReadyL.nil
  rw [if_pos (by rfl)]
  refine wp_buildSlice 86 85 1 _ rfl (rcells rn (.slice A2 n2 q2)).toArray i85 z85 Try.underlying86 hi85 hz85 (by rw [hz85s]; decide) (by rw [hz85s]; decide) (by rw [hz85s]; simp only [List.map_toArray, List.map_cons, List.map_nil]; exact fill_whole (rcells rn (.slice A2 n2 q2)) 131 (Array.map (fun x => z85.cells[x % z85.cells.size]!) (Array.range (1 * 131))) (rcells_len _ _) (by rw [Array.size_map, Array.size_range])) ?_
  have hnew := Blk.new W 85 (rcells rn (.slice A2 n2 q2)).toArray
  have hBA := (Below.refl _ W).alloc (Nat.le_refl _) (.cells (rcells rn (.slice A2 n2 q2)).toArray 85)
  have hA4 := hA3d.below hBA
  have hBe4 := hBed.trans (hBA.mono hBed.size)
  have hlr4 := hlrd.below hBA
  have hS4 : (fun w' : World => w'.cell? ⟨xb, 0, none⟩ = some (.slice (some ⟨g, 0, none⟩) ns.length cap) ∧ w'.rangeAt N 0 (rcells rn (.slice A2 n2 q2))) (W.alloc (.cells (rcells rn (.slice A2 n2 q2)).toArray 85)) := ⟨hA4.cells.1, fun j u hu => by
    have h1 := hS.2 j u hu
    exact (hBA.cell (World.block_lt_of_cell? W _ h1)).trans h1⟩
  refine hK.out _ _ (fun _ => hS4) ?_
  clear hK K hS
  try simp only [Act.put, List.setIfInBounds_toArray, List.set_cons_zero, List.set_cons_succ]
  have hS := hS4
  clear hS4 hA3d hBed hlrd hBA
  have hMl : W.heap.size < (W.alloc (.cells (rcells rn (.slice A2 n2 q2)).toArray 85)).heap.size := by simp
  obtain ⟨M, hM⟩ : ∃ M, M = W.heap.size := ⟨_, rfl⟩
  rw [← hM] at hnew hMl ⊢
  clear hM hgrow0
  generalize W.alloc (.cells (rcells rn (.slice A2 n2 q2)).toArray 85) = W5 at *
  refine wpAnyL_ready (rs := [7]) (by kernel_rfl) (by simp) ?_
  refine AllReadyL.cons (o := { dst := some 57, op := Go.Op.call { callee := Go.Callee.builtin Go.Builtin.append, args := #[Go.Operand.tmp 54, Go.Operand.tmp 56], argTypes := #[86, 86] }, type := 86, pos := "ref.go:34", after := #[{ on := 4, ground := Go.Ground.data }, { on := 6, ground := Go.Ground.data }], guard := none }) rfl (fun K hK => ?_) AllReadyL.nil
  refine step_append_lies _ (by rfl) _ _ 86 (by rfl) base 85 i85 z85 131 1576 Try.underlying86 hi85 hz85 hz85s hz85b hz85c (by decide) (.slice (some ⟨g, 0, none⟩) ns.length cap) ns.length (rrow ns) (by rfl) hA4.nodes ⟨M, 0, none⟩ 1 1 (rcells rn (.slice A2 n2 q2)) (by rfl) (by rw [rcells_len]) (fun j u hu => by rw [addr_at, Nat.zero_add, hnew.cell]; simpa using hu) (rcells_one rn (.slice A2 n2 q2) rfl) (by omega) (by unfold maxLen; omega) (by omega) (Nat.le_trans hbase hBe4.size) _ rfl ?_
  intro g1 cap1 W6 hown1 hgrow1 hat1 hlt1
  have hg6 : ∀ x, x < W5.heap.size → x ≠ g → W6.heap[x]? = W5.heap[x]? := fun x hx hne => hgrow1.block x hx (fun e => hne (by simp [Value.ownBlock] at e; exact e))
  have hxg : xb ≠ g := fun e => by
    have h1 := hA4.blk
    obtain ⟨cs, h2⟩ := own_cells hA4.nodes g rfl
    rw [e] at h1
    unfold Blk at h1
    rw [h1] at h2; cases h2
  have hbx6 : Blk W6 xb 89 #[.slice (some ⟨g, 0, none⟩) ns.length cap, (.slice (some ⟨gl, 0, none⟩) lv.length cl)] := (hg6 xb hA4.blk.lt hxg).trans hA4.blk
  have hliv6 := hA4.live.kept hgrow1 (by
    rcases hv : ((.slice (some ⟨gl, 0, none⟩) lv.length cl) : Value).ownBlock with _ | y
    · exact .inl rfl
    · exact .inr fun e => by
        obtain ⟨c1, hc1⟩ := own_cells hA4.live y hv
        obtain ⟨c2, hc2⟩ := own_cells hA4.nodes y e.symm
        rw [hc1] at hc2; cases hc2)
  have hls6 : ∀ m ∈ ns, OwnR base W6 m.2 m.1.L := fun m hm => (hA4.ls m hm).kept hgrow1 (by
    rcases hv : m.2.ownBlock with _ | y
    · exact .inl rfl
    · exact .inr fun e => by
        obtain ⟨c1, hc1⟩ := own_cells (hA4.ls m hm) y hv
        obtain ⟨c2, hc2⟩ := own_cells hA4.nodes y e.symm
        rw [hc1] at hc2; cases hc2)
  have hlr6 : OwnR base W6 (.slice A2 n2 q2) r.1.L := hlr4.kept hgrow1 (by
    rcases hv : ((.slice A2 n2 q2) : Value).ownBlock with _ | y
    · exact .inl rfl
    · exact .inr fun e => by
        obtain ⟨c1, hc1⟩ := own_cells hlr4 y hv
        obtain ⟨c2, hc2⟩ := own_cells hA4.nodes y e.symm
        rw [hc1] at hc2; cases hc2)
  have hNg : N ≠ g := fun e => hgN (by rw [e]; rfl)
  have hS6 : (fun w' : World => w'.cell? ⟨xb, 0, none⟩ = some (.slice (some ⟨g, 0, none⟩) ns.length cap) ∧ w'.rangeAt N 0 (rcells rn (.slice A2 n2 q2))) W6 := ⟨hbx6.cell 0, fun j u hu => by
    have h1 := hS.2 j u hu
    exact (World.cell?_of_block (a := ⟨N, 0 + j, none⟩) (hg6 N (World.block_lt_of_cell? W5 _ h1) hNg)).trans h1⟩
  refine hK.out _ _ (fun _ => hS6) ?_
  clear hK K hS
  try simp only [Act.put, List.setIfInBounds_toArray, List.set_cons_zero, List.set_cons_succ]
  have hS := hS6
  have f6 := hbx6.frozen 0
  have k6 := hbx6.cell 0
  simp only [List.getElem?_toArray, List.getElem?_cons_succ, List.getElem?_cons_zero] at k6
  have hsz6 := hgrow1.size
  refine wpAnyL_take0 (i := 8) (oi := { dst := some 58, op := Go.Op.nilCheck (Go.Operand.tmp 50), type := 0, pos := "ref.go:34", after := #[{ on := 0, ground := Go.Ground.data }, { on := 0, ground := Go.Ground.phase }, { on := 1, ground := Go.Ground.phase }, { on := 2, ground := Go.Ground.phase }, { on := 3, ground := Go.Ground.phase }, { on := 4, ground := Go.Ground.phase }, { on := 5, ground := Go.Ground.phase }, { on := 6, ground := Go.Ground.phase }, { on := 7, ground := Go.Ground.phase }], guard := none }) (v := .pointer (some ⟨xb, 0, none⟩)) rfl (by kernel_rfl) (by kernel_rfl) (by kernel_rfl) (by kernel_rfl) (fun _ _ _ h => h) hS (Or.inl ⟨by rfl, fun w hSw => ?_⟩) ?_
  · go_split_ands
    go_simp
  try simp only [Act.put, List.setIfInBounds_toArray, List.set_cons_zero, List.set_cons_succ]
  refine wpAnyL_take0 (i := 9) (oi := { dst := some 59, op := Go.Op.fieldAddr 89 (Go.Operand.tmp 58) 0, type := 0, pos := "ref.go:34", after := #[{ on := 8, ground := Go.Ground.data }, { on := 0, ground := Go.Ground.phase }, { on := 1, ground := Go.Ground.phase }, { on := 2, ground := Go.Ground.phase }, { on := 3, ground := Go.Ground.phase }, { on := 4, ground := Go.Ground.phase }, { on := 5, ground := Go.Ground.phase }, { on := 6, ground := Go.Ground.phase }, { on := 7, ground := Go.Ground.phase }], guard := none }) (v := .pointer (some ⟨xb, 0, none⟩)) rfl (by kernel_rfl) (by kernel_rfl) (by kernel_rfl) (by kernel_rfl) (fun _ _ _ h => h) hS (Or.inl ⟨by rfl, fun w hSw => ?_⟩) ?_
  · go_split_ands
    go_simp
  try simp only [Act.put, List.setIfInBounds_toArray, List.set_cons_zero, List.set_cons_succ]
  refine wpAnyL_ready (rs := [10]) (by kernel_rfl) (by simp) ?_
  refine AllReadyL.cons (o := { dst := none, op := Go.Op.store 86 (Go.Operand.tmp 59) (Go.Operand.tmp 57), type := 0, pos := "ref.go:34", after := #[{ on := 9, ground := Go.Ground.data }, { on := 7, ground := Go.Ground.data }, { on := 7, ground := Go.Ground.chain }, { on := 0, ground := Go.Ground.phase }, { on := 1, ground := Go.Ground.phase }, { on := 2, ground := Go.Ground.phase }, { on := 3, ground := Go.Ground.phase }, { on := 4, ground := Go.Ground.phase }, { on := 5, ground := Go.Ground.phase }, { on := 6, ground := Go.Ground.phase }, { on := 7, ground := Go.Ground.phase }], guard := none }) rfl (fun K hK => ?_) AllReadyL.nil
  go_simp
  refine hK.out _ _ (late_noR (by kernel_rfl)) ?_
  clear hK K hS hS6
  try simp only [Act.put, List.setIfInBounds_toArray, List.set_cons_zero, List.set_cons_succ]
  refine wpAnyL_done (by kernel_rfl) ?_ _
  have hx1 : (Value.slice (some ⟨g1, 0, none⟩) (ns.length + 1) cap1).ownBlock ≠ some xb := own_ne hown1 (fun cur e => by have h1 := hbx6; unfold Blk at h1; rw [h1] at e; cases e)
  have hfin : RefA base (W6.setCell ⟨xb, 0, none⟩ (.slice (some ⟨g1, 0, none⟩) (ns.length + 1) cap1)) xb (.slice (some ⟨g1, 0, none⟩) (ns.length + 1) cap1) (.slice (some ⟨gl, 0, none⟩) lv.length cl) (ns ++ [(rn, (.slice A2 n2 q2))]) lv := by
    refine ⟨hbx6.set_ 0 _, hA4.ge, ?_, ownsRow_setCell_other hliv6 (own_ne hliv6 fun cur e => ?_) _, ?_⟩
    · rw [List.length_append, rrow_snoc]
      exact ownsRow_setCell_other hown1 hx1 _
    · have h1 := hbx6; unfold Blk at h1; rw [h1] at e; cases e
    · intro m hm
      rcases List.mem_append.1 hm with hm | hm
      · exact ownsRow_setCell_other (hls6 m hm) (own_ne (hls6 m hm) fun cur e => by have h1 := hbx6; unfold Blk at h1; rw [h1] at e; cases e) _
      · simp only [List.mem_cons, List.not_mem_nil, or_false] at hm
        subst hm
        have hL2 : OwnR base (W6.setCell ⟨xb, 0, none⟩ (.slice (some ⟨g1, 0, none⟩) (ns.length + 1) cap1)) (.slice A2 n2 q2) r.1.L := ownsRow_setCell_other hlr6 (own_ne hlr6 fun cur e => by have h1 := hbx6; unfold Blk at h1; rw [h1] at e; cases e) _
        rw [HRN.out]; exact hL2
  have hkp : KeepA base w (W6.setCell ⟨xb, 0, none⟩ (.slice (some ⟨g1, 0, none⟩) (ns.length + 1) cap1)) := by
    refine ⟨?_, fun x hx h85 h89 => ?_⟩
    · have h1 := hBe4.mono hbase
      have h2 : Below base w W6 := h1.grown hgrow1 (Nat.le_trans hbase hBe4.size) (own_ge hA4.nodes)
      exact h2.setCell (p := ⟨xb, 0, none⟩) hA4.ge _
    · have e1 := hBe4.block x hx
      have hxx : x ≠ xb := fun e => h89 _ _ (by rw [e]; exact HH.out.blk)
      have hxg' : x ≠ g := fun e => by
        obtain ⟨cs, h2⟩ := own_cells HH.out.nodes g rfl
        exact h85 _ _ (by rw [e]; exact h2)
      rw [Below.heap_setCell _ _ _ _ hxx, hg6 x (Nat.lt_of_lt_of_le hx hBe4.size) hxg']
      exact e1
  generalize W6.setCell ⟨xb, 0, none⟩ (.slice (some ⟨g1, 0, none⟩) (ns.length + 1) cap1) = W7 at *
  obtain ⟨z0, -⟩ := hfin.cells
  have F1 : IntKind.i64.wrap (((ns.length : Int) + 1) - 1) = (ns.length : Int) := by rw [IntWalk.i64_in _ (by omega)]; omega
  have F2 : IntKind.i64.wrap (((ns.length + 1 : Nat) : Int) - 1) = (ns.length : Int) := by rw [IntWalk.i64_in _ (by omega)]; omega
  clear hbx6 hliv6 hls6 hlr6 hown1 hgrow1 k6 f6 hA4 hBe4 hlr4 hg6
  go_wp2_with fail
  go_ret
  rw [HRN.out] at hfin
  exact ⟨_, (.slice A2 n2 q2), rfl, hfin, hkp⟩

set_option maxRecDepth 100000 in
set_option maxHeartbeats 8000000 in
theorem own_dead (base xb n who : Nat) (Nv Lv : Value) (ns : List (RN × Value)) (lv : List Bool) (r : RN × Value) (w : World) (h : RefA base w xb Nv Lv ns lv) (hr : ns[n]? = some r) (hw : 0 < who) (hl : lv[who]? = some false) (hn : ns.length ≤ 1000) (hln : lv.length ≤ 1000) (hL : r.1.L.length ≤ 900) (hbase : base ≤ w.heap.size) :
    Calls Try.prog 67 #[at0 xb, .int .i64 n, .int .i64 who] w (OwnPost base xb Lv ns lv { r.1 with ow := 0 } w) := by
  obtain ⟨c0, c1⟩ := h.cells
  obtain ⟨g, cap, rfl, hlt, hrg, hfz⟩ := h.node n r hr
  have hvl := h.ls r (List.mem_of_getElem? hr)
  obtain ⟨gl, cl, rfl, hll, hcl⟩ := h.liveAt who false hl
  have B1 : (who : Int) < (lv.length : Int) := by omega
  have B3 : (0 : Int) < (who : Int) := by omega
  have B2 : (n : Int) < (ns.length : Int) := by omega
  have hs85 : (Try.prog.info? 85).map (·.size) = some (rcells r.1 r.2).length := by rw [rcells_len]; exact size85
  -- the copy
  have hBZ := Blk.new w 85 Try.zeroCells85
  have hvl1 : r.2.oneCell' = true := by
    rcases hvl.2 with ⟨e, _⟩ | ⟨_, _, _, e, _⟩ <;> rw [e] <;> rfl
  obtain ⟨W1, hW1⟩ : ∃ W1, W1 = (w.alloc (.cells Try.zeroCells85 85)).setRow w.heap.size (rcells r.1 r.2).toArray := ⟨_, rfl⟩
  have hst : (storeCells ⟨w.heap.size, 0, none⟩ (rcells r.1 r.2)).run Try.prog (w.alloc (.cells Try.zeroCells85 85)) = .ok () W1 := by
    have := run_storeCells_at Try.prog w.heap.size 0 85 (rcells r.1 r.2) 0 Try.zeroCells85 _ hBZ (by rw [rcells_len, zc85]; omega) (rcells_one r.1 r.2 hvl1)
    rw [this, hW1]
    have e0 : (Try.zeroCells85.toList.take (0 + 0) ++ rcells r.1 r.2 ++ Try.zeroCells85.toList.drop (0 + 0 + (rcells r.1 r.2).length)) = rcells r.1 r.2 := by
      rw [rcells_len, List.drop_of_length_le (by rw [Array.length_toList, zc85]; omega), List.append_nil]; rfl
    rw [e0]
  have hB1 : Blk W1 w.heap.size 85 (rcells r.1 r.2).toArray := by rw [hW1]; exact hBZ.row _
  have hBe1 : Below w.heap.size w W1 := by rw [hW1]; exact below_setRow ((Below.refl _ w).alloc (Nat.le_refl _) _) (Nat.le_refl _) _
  have hA1 := h.below hBe1
  have hvlA := hvl.below hBe1
  have hsz1 : w.heap.size < W1.heap.size := hB1.lt
  obtain ⟨N, hN⟩ : ∃ N, N = w.heap.size := ⟨_, rfl⟩
  rw [← hN] at hst hB1 hsz1
  have hN0 : w.heap.size = N := hN.symm
  clear hW1
  obtain ⟨v2, W2, hcop, hO2, hBe2⟩ := copyL W1 r.2 r.1.L base hvlA hL
  obtain ⟨A2, n2, q2, rfl⟩ : ∃ A n c, v2 = .slice A n c := by
    rcases hO2.2 with ⟨e, _⟩ | ⟨_, _, _, e, _⟩
    · exact ⟨_, _, _, e⟩
    · exact ⟨_, _, _, e⟩
  have hA2 := hA1.below hBe2
  have hB2 := hB1.below hBe2
  have k129 : (W1.alloc (.cells #[] 81)).cell? ⟨N, 129, none⟩ = some r.2 := by
    rw [(hB1.alloc _).cell 129]
    have := rcells_get r.1 r.2 129 (by omega)
    rw [rcell_l] at this
    simpa using this
  obtain ⟨rn, hrn⟩ : ∃ rn : RN, rn = { r.1 with ow := 0 } := ⟨_, rfl⟩
  have f129 := hB2.frozen 129
  have f130 := hB2.frozen 130
  have k129b : (W2.cell? ⟨N, 129, none⟩).isSome = true := by
    rw [hB2.cell 129, show (rcells r.1 r.2).toArray[129]? = (rcells r.1 r.2)[129]? by simp, rcells_get _ _ _ (by omega)]; rfl
  have k130b : W2.cell? ⟨N, 130, none⟩ = some (.int .i64 (r.1.ow : Nat)) := by
    rw [hB2.cell 130, show (rcells r.1 r.2).toArray[130]? = (rcells r.1 r.2)[130]? by simp, rcells_get _ _ _ (by omega), rcell_ow]
  obtain ⟨u129, hu129⟩ := Option.isSome_iff_exists.1 k129b
  have HA1 := Lib.hid hA1
  have HA2 := Lib.hid hA2
  have HB2 := Lib.hid hB2
  have HO2 := Lib.hid hO2
  have HBe := Lib.hid (hBe1.trans (hBe2.mono hBe1.size))
  have HN := Lib.hid hN
  have HRN := Lib.hid hrn
  have HH := Lib.hid h
  have HZ := Lib.hid hsz1
  clear hA1 hA2 hO2 hB1 hBe1 hBe2 hvl hvlA hvl1 hBZ h hr hfz hN hrn k129b hsz1 hlt
  clear hB2
  unfold at0
  go_enter Try.func67, Try.ntmps67
  go_upto_region 9 with (first
    | (with_reducible refine wpList_load_mid rfl 85 _ rfl g (n * 131) rfl (rcells r.1 r.2) _ hrg Try.underlying85 rfl hs85 ?_)
    | (at_builtin; refine Lib.wpList_append_run _ rfl _ _ _ _ rfl _ _ rfl rfl _ _ hcop ?_))
  have hg := HH.out.nodes
  have hgN : (Value.slice (some ⟨g, 0, none⟩) ns.length cap).ownBlock ≠ some N := fun e => by have := (World.ownsRow.lt HH.out.nodes _ e).2; have := HN.out; omega
  have hA3a := (HA2.out.setFresh HB2.out hgN 129 (.slice A2 n2 q2)).setFresh (HB2.out.set_ 129 (.slice A2 n2 q2)) hgN 130 (.int .i64 0)
  have hB3a := (HB2.out.set_ 129 (.slice A2 n2 q2)).set_ 130 (.int .i64 0)
  have hBea := ((HBe.out.setCell (p := ⟨N, 129, none⟩) (by rw [HN.out]; exact Nat.le_refl _) (.slice A2 n2 q2)).setCell (p := ⟨N, 130, none⟩) (by rw [HN.out]; exact Nat.le_refl _) (.int .i64 0))
  have hlr : OwnR base ((W2.setCell ⟨N, 129, none⟩ (.slice A2 n2 q2)).setCell ⟨N, 130, none⟩ (.int .i64 0)) (.slice A2 n2 q2) r.1.L := by
    have e1 : (Value.slice A2 n2 q2).ownBlock ≠ some N := own_ne HO2.out (fun cur e => by have hb := HB2.out; unfold Blk at hb; rw [hb] at e; cases e)
    exact ownsRow_setCell_other (ownsRow_setCell_other (HO2.out.base (Nat.le_trans hbase (Nat.le_trans (Nat.le_of_eq HN.out.symm) (Nat.le_of_lt HZ.out)))) e1 _) e1 _
  simp only [List.setIfInBounds_toArray] at hB3a
  rw [rcells_setL r.1 r.2 (.slice A2 n2 q2) r.1.L, rcells_setOw0] at hB3a
  have hB3 : Blk ((W2.setCell ⟨N, 129, none⟩ (.slice A2 n2 q2)).setCell ⟨N, 130, none⟩ (.int .i64 0)) N 85 (rcells rn (.slice A2 n2 q2)).toArray := by
    rw [HRN.out]
    exact hB3a
  have hA3 := hA3a
  have hBe3 := hBea
  have hlr3 := hlr
  generalize ((W2.setCell ⟨N, 129, none⟩ (.slice A2 n2 q2)).setCell ⟨N, 130, none⟩ (.int .i64 0)) = W3 at *
  have hrow3 : W3.drew.rangeAt N 0 (rcells rn (.slice A2 n2 q2)) := fun j u hu => by
    rw [Nat.zero_add]
    have := hB3.cell j
    rw [show W3.drew.cell? ⟨N, j, none⟩ = W3.cell? ⟨N, j, none⟩ from rfl, this]
    simpa using hu
  obtain ⟨i85, z85, hi85, hz85, hz85s, hz85b, hz85c⟩ := info85z
  have hs85' : (Try.prog.info? 85).map (·.size) = some (rcells rn (.slice A2 n2 q2)).length := by rw [rcells_len]; exact size85
  have hA3d : RefA base W3.drew xb (.slice (some ⟨g, 0, none⟩) ns.length cap) (.slice (some ⟨gl, 0, none⟩) lv.length cl) ns lv := hA3.drewN 1
  have hBed : Below w.heap.size w W3.drew := hBe3.drew
  have hlrd : OwnR base W3.drew (.slice A2 n2 q2) r.1.L := hlr3
  have hgrow0 := hA3d.nodes
  have hS : (fun w' : World => w'.cell? ⟨xb, 0, none⟩ = some (.slice (some ⟨g, 0, none⟩) ns.length cap) ∧ w'.rangeAt N 0 (rcells rn (.slice A2 n2 q2))) W3.drew := ⟨hA3d.cells.1, hrow3⟩
  clear hA3 hB3 hBe3 hlr3 hA3a hB3a hBea hlr c0 c1 hcop hst k129 f129 f130 k130b hu129 hrow3
  refine wp_region_late (S := fun w' => w'.cell? ⟨xb, 0, none⟩ = some (.slice (some ⟨g, 0, none⟩) ns.length cap) ∧ w'.rangeAt N 0 (rcells rn (.slice A2 n2 q2))) (st := 10) (by kernel_rfl) ?_
  generalize W3.drew = W at *
  refine wpAnyL_take0 (i := 0) (oi := { dst := some 50, op := Go.Op.move (Go.Operand.tmp 0), type := 34, pos := "ref.go:34", after := #[], guard := none }) (v := .pointer (some ⟨xb, 0, none⟩)) rfl (by kernel_rfl) (by kernel_rfl) (by kernel_rfl) (by kernel_rfl) (fun _ _ _ h => h) hS (Or.inl ⟨by rfl, fun w hSw => ?_⟩) ?_
  · go_split_ands
    go_simp
  try simp only [Act.put, List.setIfInBounds_toArray, List.set_cons_zero, List.set_cons_succ]
  refine wpAnyL_take0 (i := 1) (oi := { dst := some 51, op := Go.Op.move (Go.Operand.tmp 0), type := 34, pos := "ref.go:34", after := #[], guard := none }) (v := .pointer (some ⟨xb, 0, none⟩)) rfl (by kernel_rfl) (by kernel_rfl) (by kernel_rfl) (by kernel_rfl) (fun _ _ _ h => h) hS (Or.inl ⟨by rfl, fun w hSw => ?_⟩) ?_
  · go_split_ands
    go_simp
  try simp only [Act.put, List.setIfInBounds_toArray, List.set_cons_zero, List.set_cons_succ]
  refine wpAnyL_take0 (i := 2) (oi := { dst := some 52, op := Go.Op.nilCheck (Go.Operand.tmp 51), type := 0, pos := "ref.go:34", after := #[{ on := 1, ground := Go.Ground.data }], guard := none }) (v := .pointer (some ⟨xb, 0, none⟩)) rfl (by kernel_rfl) (by kernel_rfl) (by kernel_rfl) (by kernel_rfl) (fun _ _ _ h => h) hS (Or.inl ⟨by rfl, fun w hSw => ?_⟩) ?_
  · go_split_ands
    go_simp
  try simp only [Act.put, List.setIfInBounds_toArray, List.set_cons_zero, List.set_cons_succ]
  refine wpAnyL_take0 (i := 3) (oi := { dst := some 53, op := Go.Op.fieldAddr 89 (Go.Operand.tmp 52) 0, type := 0, pos := "ref.go:34", after := #[{ on := 2, ground := Go.Ground.data }], guard := none }) (v := .pointer (some ⟨xb, 0, none⟩)) rfl (by kernel_rfl) (by kernel_rfl) (by kernel_rfl) (by kernel_rfl) (fun _ _ _ h => h) hS (Or.inl ⟨by rfl, fun w hSw => ?_⟩) ?_
  · go_split_ands
    go_simp
  try simp only [Act.put, List.setIfInBounds_toArray, List.set_cons_zero, List.set_cons_succ]
  refine wpAnyL_take (i := 4) (oi := { dst := some 54, op := Go.Op.load 86 (Go.Operand.tmp 53), type := 86, pos := "ref.go:34", after := #[{ on := 3, ground := Go.Ground.data }], guard := none }) (v := .slice (some ⟨g, 0, none⟩) ns.length cap) rfl (by kernel_rfl) (by kernel_rfl) (by kernel_rfl) (by kernel_rfl) (fun _ _ _ h => h) hS (Or.inl ⟨by rfl, fun w hSw => ?_⟩) ?_
  · go_split_ands
    go_simp
  try simp only [Act.put, List.setIfInBounds_toArray, List.set_cons_zero, List.set_cons_succ]
  refine wpAnyL_take (i := 5) (oi := { dst := some 55, op := Go.Op.load 85 (Go.Operand.tmp 8), type := 85, pos := "ref.go:34", after := #[], guard := none }) (v := .agg (rcells rn (.slice A2 n2 q2)).toArray) rfl (by kernel_rfl) (by kernel_rfl) (by kernel_rfl) (by kernel_rfl) (fun _ _ _ h => h) hS (yieldsIf_load_mid (by rfl) 85 _ rfl N 0 rfl (rcells rn (.slice A2 n2 q2)) _ (fun w hSw => hSw.2) Try.underlying85 rfl hs85') ?_
  try simp only [Act.put, List.setIfInBounds_toArray, List.set_cons_zero, List.set_cons_succ]
  refine wpAnyL_ready (rs := [6]) (by kernel_rfl) (by simp) ?_
  refine AllReadyL.cons (o := { dst := some 56, op := Go.Op.buildSlice 86 1 #[(0, Go.Operand.tmp 55)], type := 86, pos := "ref.go:34", after := #[{ on := 5, ground := Go.Ground.data }], guard := none }) rfl (fun K hK => ?_) AllReadyL.nil
  rw [if_pos (by rfl)]
  refine wp_buildSlice 86 85 1 _ rfl (rcells rn (.slice A2 n2 q2)).toArray i85 z85 Try.underlying86 hi85 hz85 (by rw [hz85s]; decide) (by rw [hz85s]; decide) (by rw [hz85s]; simp only [List.map_toArray, List.map_cons, List.map_nil]; exact fill_whole (rcells rn (.slice A2 n2 q2)) 131 (Array.map (fun x => z85.cells[x % z85.cells.size]!) (Array.range (1 * 131))) (rcells_len _ _) (by rw [Array.size_map, Array.size_range])) ?_
  have hnew := Blk.new W 85 (rcells rn (.slice A2 n2 q2)).toArray
  have hBA := (Below.refl _ W).alloc (Nat.le_refl _) (.cells (rcells rn (.slice A2 n2 q2)).toArray 85)
  have hA4 := hA3d.below hBA
  have hBe4 := hBed.trans (hBA.mono hBed.size)
  have hlr4 := hlrd.below hBA
  have hS4 : (fun w' : World => w'.cell? ⟨xb, 0, none⟩ = some (.slice (some ⟨g, 0, none⟩) ns.length cap) ∧ w'.rangeAt N 0 (rcells rn (.slice A2 n2 q2))) (W.alloc (.cells (rcells rn (.slice A2 n2 q2)).toArray 85)) := ⟨hA4.cells.1, fun j u hu => by
    have h1 := hS.2 j u hu
    exact (hBA.cell (World.block_lt_of_cell? W _ h1)).trans h1⟩
  refine hK.out _ _ (fun _ => hS4) ?_
  clear hK K hS
  try simp only [Act.put, List.setIfInBounds_toArray, List.set_cons_zero, List.set_cons_succ]
  have hS := hS4
  clear hS4 hA3d hBed hlrd hBA
  have hMl : W.heap.size < (W.alloc (.cells (rcells rn (.slice A2 n2 q2)).toArray 85)).heap.size := by simp
  obtain ⟨M, hM⟩ : ∃ M, M = W.heap.size := ⟨_, rfl⟩
  rw [← hM] at hnew hMl ⊢
  clear hM hgrow0
  generalize W.alloc (.cells (rcells rn (.slice A2 n2 q2)).toArray 85) = W5 at *
  refine wpAnyL_ready (rs := [7]) (by kernel_rfl) (by simp) ?_
  refine AllReadyL.cons (o := { dst := some 57, op := Go.Op.call { callee := Go.Callee.builtin Go.Builtin.append, args := #[Go.Operand.tmp 54, Go.Operand.tmp 56], argTypes := #[86, 86] }, type := 86, pos := "ref.go:34", after := #[{ on := 4, ground := Go.Ground.data }, { on := 6, ground := Go.Ground.data }], guard := none }) rfl (fun K hK => ?_) AllReadyL.nil
  refine step_append_lies _ (by rfl) _ _ 86 (by rfl) base 85 i85 z85 131 1576 Try.underlying86 hi85 hz85 hz85s hz85b hz85c (by decide) (.slice (some ⟨g, 0, none⟩) ns.length cap) ns.length (rrow ns) (by rfl) hA4.nodes ⟨M, 0, none⟩ 1 1 (rcells rn (.slice A2 n2 q2)) (by rfl) (by rw [rcells_len]) (fun j u hu => by rw [addr_at, Nat.zero_add, hnew.cell]; simpa using hu) (rcells_one rn (.slice A2 n2 q2) rfl) (by omega) (by unfold maxLen; omega) (by omega) (Nat.le_trans hbase hBe4.size) _ rfl ?_
  intro g1 cap1 W6 hown1 hgrow1 hat1 hlt1
  have hg6 : ∀ x, x < W5.heap.size → x ≠ g → W6.heap[x]? = W5.heap[x]? := fun x hx hne => hgrow1.block x hx (fun e => hne (by simp [Value.ownBlock] at e; exact e))
  have hxg : xb ≠ g := fun e => by
    have h1 := hA4.blk
    obtain ⟨cs, h2⟩ := own_cells hA4.nodes g rfl
    rw [e] at h1
    unfold Blk at h1
    rw [h1] at h2; cases h2
  have hbx6 : Blk W6 xb 89 #[.slice (some ⟨g, 0, none⟩) ns.length cap, (.slice (some ⟨gl, 0, none⟩) lv.length cl)] := (hg6 xb hA4.blk.lt hxg).trans hA4.blk
  have hliv6 := hA4.live.kept hgrow1 (by
    rcases hv : ((.slice (some ⟨gl, 0, none⟩) lv.length cl) : Value).ownBlock with _ | y
    · exact .inl rfl
    · exact .inr fun e => by
        obtain ⟨c1, hc1⟩ := own_cells hA4.live y hv
        obtain ⟨c2, hc2⟩ := own_cells hA4.nodes y e.symm
        rw [hc1] at hc2; cases hc2)
  have hls6 : ∀ m ∈ ns, OwnR base W6 m.2 m.1.L := fun m hm => (hA4.ls m hm).kept hgrow1 (by
    rcases hv : m.2.ownBlock with _ | y
    · exact .inl rfl
    · exact .inr fun e => by
        obtain ⟨c1, hc1⟩ := own_cells (hA4.ls m hm) y hv
        obtain ⟨c2, hc2⟩ := own_cells hA4.nodes y e.symm
        rw [hc1] at hc2; cases hc2)
  have hlr6 : OwnR base W6 (.slice A2 n2 q2) r.1.L := hlr4.kept hgrow1 (by
    rcases hv : ((.slice A2 n2 q2) : Value).ownBlock with _ | y
    · exact .inl rfl
    · exact .inr fun e => by
        obtain ⟨c1, hc1⟩ := own_cells hlr4 y hv
        obtain ⟨c2, hc2⟩ := own_cells hA4.nodes y e.symm
        rw [hc1] at hc2; cases hc2)
  have hNg : N ≠ g := fun e => hgN (by rw [e]; rfl)
  have hS6 : (fun w' : World => w'.cell? ⟨xb, 0, none⟩ = some (.slice (some ⟨g, 0, none⟩) ns.length cap) ∧ w'.rangeAt N 0 (rcells rn (.slice A2 n2 q2))) W6 := ⟨hbx6.cell 0, fun j u hu => by
    have h1 := hS.2 j u hu
    exact (World.cell?_of_block (a := ⟨N, 0 + j, none⟩) (hg6 N (World.block_lt_of_cell? W5 _ h1) hNg)).trans h1⟩
  refine hK.out _ _ (fun _ => hS6) ?_
  clear hK K hS
  try simp only [Act.put, List.setIfInBounds_toArray, List.set_cons_zero, List.set_cons_succ]
  have hS := hS6
  have f6 := hbx6.frozen 0
  have k6 := hbx6.cell 0
  simp only [List.getElem?_toArray, List.getElem?_cons_succ, List.getElem?_cons_zero] at k6
  have hsz6 := hgrow1.size
  refine wpAnyL_take0 (i := 8) (oi := { dst := some 58, op := Go.Op.nilCheck (Go.Operand.tmp 50), type := 0, pos := "ref.go:34", after := #[{ on := 0, ground := Go.Ground.data }, { on := 0, ground := Go.Ground.phase }, { on := 1, ground := Go.Ground.phase }, { on := 2, ground := Go.Ground.phase }, { on := 3, ground := Go.Ground.phase }, { on := 4, ground := Go.Ground.phase }, { on := 5, ground := Go.Ground.phase }, { on := 6, ground := Go.Ground.phase }, { on := 7, ground := Go.Ground.phase }], guard := none }) (v := .pointer (some ⟨xb, 0, none⟩)) rfl (by kernel_rfl) (by kernel_rfl) (by kernel_rfl) (by kernel_rfl) (fun _ _ _ h => h) hS (Or.inl ⟨by rfl, fun w hSw => ?_⟩) ?_
  · go_split_ands
    go_simp
  try simp only [Act.put, List.setIfInBounds_toArray, List.set_cons_zero, List.set_cons_succ]
  refine wpAnyL_take0 (i := 9) (oi := { dst := some 59, op := Go.Op.fieldAddr 89 (Go.Operand.tmp 58) 0, type := 0, pos := "ref.go:34", after := #[{ on := 8, ground := Go.Ground.data }, { on := 0, ground := Go.Ground.phase }, { on := 1, ground := Go.Ground.phase }, { on := 2, ground := Go.Ground.phase }, { on := 3, ground := Go.Ground.phase }, { on := 4, ground := Go.Ground.phase }, { on := 5, ground := Go.Ground.phase }, { on := 6, ground := Go.Ground.phase }, { on := 7, ground := Go.Ground.phase }], guard := none }) (v := .pointer (some ⟨xb, 0, none⟩)) rfl (by kernel_rfl) (by kernel_rfl) (by kernel_rfl) (by kernel_rfl) (fun _ _ _ h => h) hS (Or.inl ⟨by rfl, fun w hSw => ?_⟩) ?_
  · go_split_ands
    go_simp
  try simp only [Act.put, List.setIfInBounds_toArray, List.set_cons_zero, List.set_cons_succ]
  refine wpAnyL_ready (rs := [10]) (by kernel_rfl) (by simp) ?_
  refine AllReadyL.cons (o := { dst := none, op := Go.Op.store 86 (Go.Operand.tmp 59) (Go.Operand.tmp 57), type := 0, pos := "ref.go:34", after := #[{ on := 9, ground := Go.Ground.data }, { on := 7, ground := Go.Ground.data }, { on := 7, ground := Go.Ground.chain }, { on := 0, ground := Go.Ground.phase }, { on := 1, ground := Go.Ground.phase }, { on := 2, ground := Go.Ground.phase }, { on := 3, ground := Go.Ground.phase }, { on := 4, ground := Go.Ground.phase }, { on := 5, ground := Go.Ground.phase }, { on := 6, ground := Go.Ground.phase }, { on := 7, ground := Go.Ground.phase }], guard := none }) rfl (fun K hK => ?_) AllReadyL.nil
  go_simp
  refine hK.out _ _ (late_noR (by kernel_rfl)) ?_
  clear hK K hS hS6
  try simp only [Act.put, List.setIfInBounds_toArray, List.set_cons_zero, List.set_cons_succ]
  refine wpAnyL_done (by kernel_rfl) ?_ _
  have hx1 : (Value.slice (some ⟨g1, 0, none⟩) (ns.length + 1) cap1).ownBlock ≠ some xb := own_ne hown1 (fun cur e => by have h1 := hbx6; unfold Blk at h1; rw [h1] at e; cases e)
  have hfin : RefA base (W6.setCell ⟨xb, 0, none⟩ (.slice (some ⟨g1, 0, none⟩) (ns.length + 1) cap1)) xb (.slice (some ⟨g1, 0, none⟩) (ns.length + 1) cap1) (.slice (some ⟨gl, 0, none⟩) lv.length cl) (ns ++ [(rn, (.slice A2 n2 q2))]) lv := by
    refine ⟨hbx6.set_ 0 _, hA4.ge, ?_, ownsRow_setCell_other hliv6 (own_ne hliv6 fun cur e => ?_) _, ?_⟩
    · rw [List.length_append, rrow_snoc]
      exact ownsRow_setCell_other hown1 hx1 _
    · have h1 := hbx6; unfold Blk at h1; rw [h1] at e; cases e
    · intro m hm
      rcases List.mem_append.1 hm with hm | hm
      · exact ownsRow_setCell_other (hls6 m hm) (own_ne (hls6 m hm) fun cur e => by have h1 := hbx6; unfold Blk at h1; rw [h1] at e; cases e) _
      · simp only [List.mem_cons, List.not_mem_nil, or_false] at hm
        subst hm
        have hL2 : OwnR base (W6.setCell ⟨xb, 0, none⟩ (.slice (some ⟨g1, 0, none⟩) (ns.length + 1) cap1)) (.slice A2 n2 q2) r.1.L := ownsRow_setCell_other hlr6 (own_ne hlr6 fun cur e => by have h1 := hbx6; unfold Blk at h1; rw [h1] at e; cases e) _
        rw [HRN.out]; exact hL2
  have hkp : KeepA base w (W6.setCell ⟨xb, 0, none⟩ (.slice (some ⟨g1, 0, none⟩) (ns.length + 1) cap1)) := by
    refine ⟨?_, fun x hx h85 h89 => ?_⟩
    · have h1 := hBe4.mono hbase
      have h2 : Below base w W6 := h1.grown hgrow1 (Nat.le_trans hbase hBe4.size) (own_ge hA4.nodes)
      exact h2.setCell (p := ⟨xb, 0, none⟩) hA4.ge _
    · have e1 := hBe4.block x hx
      have hxx : x ≠ xb := fun e => h89 _ _ (by rw [e]; exact HH.out.blk)
      have hxg' : x ≠ g := fun e => by
        obtain ⟨cs, h2⟩ := own_cells HH.out.nodes g rfl
        exact h85 _ _ (by rw [e]; exact h2)
      rw [Below.heap_setCell _ _ _ _ hxx, hg6 x (Nat.lt_of_lt_of_le hx hBe4.size) hxg']
      exact e1
  generalize W6.setCell ⟨xb, 0, none⟩ (.slice (some ⟨g1, 0, none⟩) (ns.length + 1) cap1) = W7 at *
  obtain ⟨z0, -⟩ := hfin.cells
  have F1 : IntKind.i64.wrap (((ns.length : Int) + 1) - 1) = (ns.length : Int) := by rw [IntWalk.i64_in _ (by omega)]; omega
  have F2 : IntKind.i64.wrap (((ns.length + 1 : Nat) : Int) - 1) = (ns.length : Int) := by rw [IntWalk.i64_in _ (by omega)]; omega
  clear hbx6 hliv6 hls6 hlr6 hown1 hgrow1 k6 f6 hA4 hBe4 hlr4 hg6
  go_wp2_with fail
  go_ret
  rw [HRN.out] at hfin
  exact ⟨_, (.slice A2 n2 q2), rfl, hfin, hkp⟩

set_option maxRecDepth 100000 in
set_option maxHeartbeats 8000000 in
theorem own_zero (base xb n who : Nat) (Nv Lv : Value) (ns : List (RN × Value)) (lv : List Bool) (r : RN × Value) (w : World) (h : RefA base w xb Nv Lv ns lv) (hr : ns[n]? = some r) (hw : who = 0) (hn : ns.length ≤ 1000) (hln : lv.length ≤ 1000) (hL : r.1.L.length ≤ 900) (hbase : base ≤ w.heap.size) :
    Calls Try.prog 67 #[at0 xb, .int .i64 n, .int .i64 who] w (OwnPost base xb Lv ns lv { r.1 with ow := 0 } w) := by
  obtain ⟨c0, c1⟩ := h.cells
  obtain ⟨g, cap, rfl, hlt, hrg, hfz⟩ := h.node n r hr
  have hvl := h.ls r (List.mem_of_getElem? hr)
  subst hw
  have B2 : (n : Int) < (ns.length : Int) := by omega
  have hs85 : (Try.prog.info? 85).map (·.size) = some (rcells r.1 r.2).length := by rw [rcells_len]; exact size85
  -- the copy
  have hBZ := Blk.new w 85 Try.zeroCells85
  have hvl1 : r.2.oneCell' = true := by
    rcases hvl.2 with ⟨e, _⟩ | ⟨_, _, _, e, _⟩ <;> rw [e] <;> rfl
  obtain ⟨W1, hW1⟩ : ∃ W1, W1 = (w.alloc (.cells Try.zeroCells85 85)).setRow w.heap.size (rcells r.1 r.2).toArray := ⟨_, rfl⟩
  have hst : (storeCells ⟨w.heap.size, 0, none⟩ (rcells r.1 r.2)).run Try.prog (w.alloc (.cells Try.zeroCells85 85)) = .ok () W1 := by
    have := run_storeCells_at Try.prog w.heap.size 0 85 (rcells r.1 r.2) 0 Try.zeroCells85 _ hBZ (by rw [rcells_len, zc85]; omega) (rcells_one r.1 r.2 hvl1)
    rw [this, hW1]
    have e0 : (Try.zeroCells85.toList.take (0 + 0) ++ rcells r.1 r.2 ++ Try.zeroCells85.toList.drop (0 + 0 + (rcells r.1 r.2).length)) = rcells r.1 r.2 := by
      rw [rcells_len, List.drop_of_length_le (by rw [Array.length_toList, zc85]; omega), List.append_nil]; rfl
    rw [e0]
  have hB1 : Blk W1 w.heap.size 85 (rcells r.1 r.2).toArray := by rw [hW1]; exact hBZ.row _
  have hBe1 : Below w.heap.size w W1 := by rw [hW1]; exact below_setRow ((Below.refl _ w).alloc (Nat.le_refl _) _) (Nat.le_refl _) _
  have hA1 := h.below hBe1
  have hvlA := hvl.below hBe1
  have hsz1 : w.heap.size < W1.heap.size := hB1.lt
  obtain ⟨N, hN⟩ : ∃ N, N = w.heap.size := ⟨_, rfl⟩
  rw [← hN] at hst hB1 hsz1
  have hN0 : w.heap.size = N := hN.symm
  clear hW1
  obtain ⟨v2, W2, hcop, hO2, hBe2⟩ := copyL W1 r.2 r.1.L base hvlA hL
  obtain ⟨A2, n2, q2, rfl⟩ : ∃ A n c, v2 = .slice A n c := by
    rcases hO2.2 with ⟨e, _⟩ | ⟨_, _, _, e, _⟩
    · exact ⟨_, _, _, e⟩
    · exact ⟨_, _, _, e⟩
  have hA2 := hA1.below hBe2
  have hB2 := hB1.below hBe2
  have k129 : (W1.alloc (.cells #[] 81)).cell? ⟨N, 129, none⟩ = some r.2 := by
    rw [(hB1.alloc _).cell 129]
    have := rcells_get r.1 r.2 129 (by omega)
    rw [rcell_l] at this
    simpa using this
  obtain ⟨rn, hrn⟩ : ∃ rn : RN, rn = { r.1 with ow := 0 } := ⟨_, rfl⟩
  have f129 := hB2.frozen 129
  have f130 := hB2.frozen 130
  have k129b : (W2.cell? ⟨N, 129, none⟩).isSome = true := by
    rw [hB2.cell 129, show (rcells r.1 r.2).toArray[129]? = (rcells r.1 r.2)[129]? by simp, rcells_get _ _ _ (by omega)]; rfl
  have k130b : W2.cell? ⟨N, 130, none⟩ = some (.int .i64 (r.1.ow : Nat)) := by
    rw [hB2.cell 130, show (rcells r.1 r.2).toArray[130]? = (rcells r.1 r.2)[130]? by simp, rcells_get _ _ _ (by omega), rcell_ow]
  obtain ⟨u129, hu129⟩ := Option.isSome_iff_exists.1 k129b
  have HA1 := Lib.hid hA1
  have HA2 := Lib.hid hA2
  have HB2 := Lib.hid hB2
  have HO2 := Lib.hid hO2
  have HBe := Lib.hid (hBe1.trans (hBe2.mono hBe1.size))
  have HN := Lib.hid hN
  have HRN := Lib.hid hrn
  have HH := Lib.hid h
  have HZ := Lib.hid hsz1
  clear hA1 hA2 hO2 hB1 hBe1 hBe2 hvl hvlA hvl1 hBZ h hr hfz hN hrn k129b hsz1 hlt
  clear hB2
  unfold at0
  go_enter Try.func67, Try.ntmps67
  go_upto_region 9 with (first
    | (with_reducible refine wpList_load_mid rfl 85 _ rfl g (n * 131) rfl (rcells r.1 r.2) _ hrg Try.underlying85 rfl hs85 ?_)
    | (at_builtin; refine Lib.wpList_append_run _ rfl _ _ _ _ rfl _ _ rfl rfl _ _ hcop ?_))
  have hg := HH.out.nodes
  have hgN : (Value.slice (some ⟨g, 0, none⟩) ns.length cap).ownBlock ≠ some N := fun e => by have := (World.ownsRow.lt HH.out.nodes _ e).2; have := HN.out; omega
  have hA3a := (HA2.out.setFresh HB2.out hgN 129 (.slice A2 n2 q2)).setFresh (HB2.out.set_ 129 (.slice A2 n2 q2)) hgN 130 (.int .i64 0)
  have hB3a := (HB2.out.set_ 129 (.slice A2 n2 q2)).set_ 130 (.int .i64 0)
  have hBea := ((HBe.out.setCell (p := ⟨N, 129, none⟩) (by rw [HN.out]; exact Nat.le_refl _) (.slice A2 n2 q2)).setCell (p := ⟨N, 130, none⟩) (by rw [HN.out]; exact Nat.le_refl _) (.int .i64 0))
  have hlr : OwnR base ((W2.setCell ⟨N, 129, none⟩ (.slice A2 n2 q2)).setCell ⟨N, 130, none⟩ (.int .i64 0)) (.slice A2 n2 q2) r.1.L := by
    have e1 : (Value.slice A2 n2 q2).ownBlock ≠ some N := own_ne HO2.out (fun cur e => by have hb := HB2.out; unfold Blk at hb; rw [hb] at e; cases e)
    exact ownsRow_setCell_other (ownsRow_setCell_other (HO2.out.base (Nat.le_trans hbase (Nat.le_trans (Nat.le_of_eq HN.out.symm) (Nat.le_of_lt HZ.out)))) e1 _) e1 _
  simp only [List.setIfInBounds_toArray] at hB3a
  rw [rcells_setL r.1 r.2 (.slice A2 n2 q2) r.1.L, rcells_setOw0] at hB3a
  have hB3 : Blk ((W2.setCell ⟨N, 129, none⟩ (.slice A2 n2 q2)).setCell ⟨N, 130, none⟩ (.int .i64 0)) N 85 (rcells rn (.slice A2 n2 q2)).toArray := by
    rw [HRN.out]
    exact hB3a
  have hA3 := hA3a
  have hBe3 := hBea
  have hlr3 := hlr
  generalize ((W2.setCell ⟨N, 129, none⟩ (.slice A2 n2 q2)).setCell ⟨N, 130, none⟩ (.int .i64 0)) = W3 at *
  have hrow3 : W3.drew.rangeAt N 0 (rcells rn (.slice A2 n2 q2)) := fun j u hu => by
    rw [Nat.zero_add]
    have := hB3.cell j
    rw [show W3.drew.cell? ⟨N, j, none⟩ = W3.cell? ⟨N, j, none⟩ from rfl, this]
    simpa using hu
  obtain ⟨i85, z85, hi85, hz85, hz85s, hz85b, hz85c⟩ := info85z
  have hs85' : (Try.prog.info? 85).map (·.size) = some (rcells rn (.slice A2 n2 q2)).length := by rw [rcells_len]; exact size85
  have hA3d : RefA base W3.drew xb (.slice (some ⟨g, 0, none⟩) ns.length cap) Lv ns lv := hA3.drewN 1
  have hBed : Below w.heap.size w W3.drew := hBe3.drew
  have hlrd : OwnR base W3.drew (.slice A2 n2 q2) r.1.L := hlr3
  have hgrow0 := hA3d.nodes
  have hS : (fun w' : World => w'.cell? ⟨xb, 0, none⟩ = some (.slice (some ⟨g, 0, none⟩) ns.length cap) ∧ w'.rangeAt N 0 (rcells rn (.slice A2 n2 q2))) W3.drew := ⟨hA3d.cells.1, hrow3⟩
  clear hA3 hB3 hBe3 hlr3 hA3a hB3a hBea hlr c0 c1 hcop hst k129 f129 f130 k130b hu129 hrow3
  refine wp_region_late (S := fun w' => w'.cell? ⟨xb, 0, none⟩ = some (.slice (some ⟨g, 0, none⟩) ns.length cap) ∧ w'.rangeAt N 0 (rcells rn (.slice A2 n2 q2))) (st := 10) (by kernel_rfl) ?_
  generalize W3.drew = W at *
  refine wpAnyL_take0 (i := 0) (oi := { dst := some 50, op := Go.Op.move (Go.Operand.tmp 0), type := 34, pos := "ref.go:34", after := #[], guard := none }) (v := .pointer (some ⟨xb, 0, none⟩)) rfl (by kernel_rfl) (by kernel_rfl) (by kernel_rfl) (by kernel_rfl) (fun _ _ _ h => h) hS (Or.inl ⟨by rfl, fun w hSw => ?_⟩) ?_
  · go_split_ands
    go_simp
  try simp only [Act.put, List.setIfInBounds_toArray, List.set_cons_zero, List.set_cons_succ]
  refine wpAnyL_take0 (i := 1) (oi := { dst := some 51, op := Go.Op.move (Go.Operand.tmp 0), type := 34, pos := "ref.go:34", after := #[], guard := none }) (v := .pointer (some ⟨xb, 0, none⟩)) rfl (by kernel_rfl) (by kernel_rfl) (by kernel_rfl) (by kernel_rfl) (fun _ _ _ h => h) hS (Or.inl ⟨by rfl, fun w hSw => ?_⟩) ?_
  · go_split_ands
    go_simp
  try simp only [Act.put, List.setIfInBounds_toArray, List.set_cons_zero, List.set_cons_succ]
  refine wpAnyL_take0 (i := 2) (oi := { dst := some 52, op := Go.Op.nilCheck (Go.Operand.tmp 51), type := 0, pos := "ref.go:34", after := #[{ on := 1, ground := Go.Ground.data }], guard := none }) (v := .pointer (some ⟨xb, 0, none⟩)) rfl (by kernel_rfl) (by kernel_rfl) (by kernel_rfl) (by kernel_rfl) (fun _ _ _ h => h) hS (Or.inl ⟨by rfl, fun w hSw => ?_⟩) ?_
  · go_split_ands
    go_simp
  try simp only [Act.put, List.setIfInBounds_toArray, List.set_cons_zero, List.set_cons_succ]
  refine wpAnyL_take0 (i := 3) (oi := { dst := some 53, op := Go.Op.fieldAddr 89 (Go.Operand.tmp 52) 0, type := 0, pos := "ref.go:34", after := #[{ on := 2, ground := Go.Ground.data }], guard := none }) (v := .pointer (some ⟨xb, 0, none⟩)) rfl (by kernel_rfl) (by kernel_rfl) (by kernel_rfl) (by kernel_rfl) (fun _ _ _ h => h) hS (Or.inl ⟨by rfl, fun w hSw => ?_⟩) ?_
  · go_split_ands
    go_simp
  try simp only [Act.put, List.setIfInBounds_toArray, List.set_cons_zero, List.set_cons_succ]
  refine wpAnyL_take (i := 4) (oi := { dst := some 54, op := Go.Op.load 86 (Go.Operand.tmp 53), type := 86, pos := "ref.go:34", after := #[{ on := 3, ground := Go.Ground.data }], guard := none }) (v := .slice (some ⟨g, 0, none⟩) ns.length cap) rfl (by kernel_rfl) (by kernel_rfl) (by kernel_rfl) (by kernel_rfl) (fun _ _ _ h => h) hS (Or.inl ⟨by rfl, fun w hSw => ?_⟩) ?_
  · go_split_ands
    go_simp
  try simp only [Act.put, List.setIfInBounds_toArray, List.set_cons_zero, List.set_cons_succ]
  refine wpAnyL_take (i := 5) (oi := { dst := some 55, op := Go.Op.load 85 (Go.Operand.tmp 8), type := 85, pos := "ref.go:34", after := #[], guard := none }) (v := .agg (rcells rn (.slice A2 n2 q2)).toArray) rfl (by kernel_rfl) (by kernel_rfl) (by kernel_rfl) (by kernel_rfl) (fun _ _ _ h => h) hS (yieldsIf_load_mid (by rfl) 85 _ rfl N 0 rfl (rcells rn (.slice A2 n2 q2)) _ (fun w hSw => hSw.2) Try.underlying85 rfl hs85') ?_
  try simp only [Act.put, List.setIfInBounds_toArray, List.set_cons_zero, List.set_cons_succ]
  refine wpAnyL_ready (rs := [6]) (by kernel_rfl) (by simp) ?_
  refine AllReadyL.cons (o := { dst := some 56, op := Go.Op.buildSlice 86 1 #[(0, Go.Operand.tmp 55)], type := 86, pos := "ref.go:34", after := #[{ on := 5, ground := Go.Ground.data }], guard := none }) rfl (fun K hK => ?_) AllReadyL.nil
  rw [if_pos (by rfl)]
  refine wp_buildSlice 86 85 1 _ rfl (rcells rn (.slice A2 n2 q2)).toArray i85 z85 Try.underlying86 hi85 hz85 (by rw [hz85s]; decide) (by rw [hz85s]; decide) (by rw [hz85s]; simp only [List.map_toArray, List.map_cons, List.map_nil]; exact fill_whole (rcells rn (.slice A2 n2 q2)) 131 (Array.map (fun x => z85.cells[x % z85.cells.size]!) (Array.range (1 * 131))) (rcells_len _ _) (by rw [Array.size_map, Array.size_range])) ?_
  have hnew := Blk.new W 85 (rcells rn (.slice A2 n2 q2)).toArray
  have hBA := (Below.refl _ W).alloc (Nat.le_refl _) (.cells (rcells rn (.slice A2 n2 q2)).toArray 85)
  have hA4 := hA3d.below hBA
  have hBe4 := hBed.trans (hBA.mono hBed.size)
  have hlr4 := hlrd.below hBA
  have hS4 : (fun w' : World => w'.cell? ⟨xb, 0, none⟩ = some (.slice (some ⟨g, 0, none⟩) ns.length cap) ∧ w'.rangeAt N 0 (rcells rn (.slice A2 n2 q2))) (W.alloc (.cells (rcells rn (.slice A2 n2 q2)).toArray 85)) := ⟨hA4.cells.1, fun j u hu => by
    have h1 := hS.2 j u hu
    exact (hBA.cell (World.block_lt_of_cell? W _ h1)).trans h1⟩
  refine hK.out _ _ (fun _ => hS4) ?_
  clear hK K hS
  try simp only [Act.put, List.setIfInBounds_toArray, List.set_cons_zero, List.set_cons_succ]
  have hS := hS4
  clear hS4 hA3d hBed hlrd hBA
  have hMl : W.heap.size < (W.alloc (.cells (rcells rn (.slice A2 n2 q2)).toArray 85)).heap.size := by simp
  obtain ⟨M, hM⟩ : ∃ M, M = W.heap.size := ⟨_, rfl⟩
  rw [← hM] at hnew hMl ⊢
  clear hM hgrow0
  generalize W.alloc (.cells (rcells rn (.slice A2 n2 q2)).toArray 85) = W5 at *
  refine wpAnyL_ready (rs := [7]) (by kernel_rfl) (by simp) ?_
  refine AllReadyL.cons (o := { dst := some 57, op := Go.Op.call { callee := Go.Callee.builtin Go.Builtin.append, args := #[Go.Operand.tmp 54, Go.Operand.tmp 56], argTypes := #[86, 86] }, type := 86, pos := "ref.go:34", after := #[{ on := 4, ground := Go.Ground.data }, { on := 6, ground := Go.Ground.data }], guard := none }) rfl (fun K hK => ?_) AllReadyL.nil
  refine step_append_lies _ (by rfl) _ _ 86 (by rfl) base 85 i85 z85 131 1576 Try.underlying86 hi85 hz85 hz85s hz85b hz85c (by decide) (.slice (some ⟨g, 0, none⟩) ns.length cap) ns.length (rrow ns) (by rfl) hA4.nodes ⟨M, 0, none⟩ 1 1 (rcells rn (.slice A2 n2 q2)) (by rfl) (by rw [rcells_len]) (fun j u hu => by rw [addr_at, Nat.zero_add, hnew.cell]; simpa using hu) (rcells_one rn (.slice A2 n2 q2) rfl) (by omega) (by unfold maxLen; omega) (by omega) (Nat.le_trans hbase hBe4.size) _ rfl ?_
  intro g1 cap1 W6 hown1 hgrow1 hat1 hlt1
  have hg6 : ∀ x, x < W5.heap.size → x ≠ g → W6.heap[x]? = W5.heap[x]? := fun x hx hne => hgrow1.block x hx (fun e => hne (by simp [Value.ownBlock] at e; exact e))
  have hxg : xb ≠ g := fun e => by
    have h1 := hA4.blk
    obtain ⟨cs, h2⟩ := own_cells hA4.nodes g rfl
    rw [e] at h1
    unfold Blk at h1
    rw [h1] at h2; cases h2
  have hbx6 : Blk W6 xb 89 #[.slice (some ⟨g, 0, none⟩) ns.length cap, Lv] := (hg6 xb hA4.blk.lt hxg).trans hA4.blk
  have hliv6 := hA4.live.kept hgrow1 (by
    rcases hv : (Lv : Value).ownBlock with _ | y
    · exact .inl rfl
    · exact .inr fun e => by
        obtain ⟨c1, hc1⟩ := own_cells hA4.live y hv
        obtain ⟨c2, hc2⟩ := own_cells hA4.nodes y e.symm
        rw [hc1] at hc2; cases hc2)
  have hls6 : ∀ m ∈ ns, OwnR base W6 m.2 m.1.L := fun m hm => (hA4.ls m hm).kept hgrow1 (by
    rcases hv : m.2.ownBlock with _ | y
    · exact .inl rfl
    · exact .inr fun e => by
        obtain ⟨c1, hc1⟩ := own_cells (hA4.ls m hm) y hv
        obtain ⟨c2, hc2⟩ := own_cells hA4.nodes y e.symm
        rw [hc1] at hc2; cases hc2)
  have hlr6 : OwnR base W6 (.slice A2 n2 q2) r.1.L := hlr4.kept hgrow1 (by
    rcases hv : ((.slice A2 n2 q2) : Value).ownBlock with _ | y
    · exact .inl rfl
    · exact .inr fun e => by
        obtain ⟨c1, hc1⟩ := own_cells hlr4 y hv
        obtain ⟨c2, hc2⟩ := own_cells hA4.nodes y e.symm
        rw [hc1] at hc2; cases hc2)
  have hNg : N ≠ g := fun e => hgN (by rw [e]; rfl)
  have hS6 : (fun w' : World => w'.cell? ⟨xb, 0, none⟩ = some (.slice (some ⟨g, 0, none⟩) ns.length cap) ∧ w'.rangeAt N 0 (rcells rn (.slice A2 n2 q2))) W6 := ⟨hbx6.cell 0, fun j u hu => by
    have h1 := hS.2 j u hu
    exact (World.cell?_of_block (a := ⟨N, 0 + j, none⟩) (hg6 N (World.block_lt_of_cell? W5 _ h1) hNg)).trans h1⟩
  refine hK.out _ _ (fun _ => hS6) ?_
  clear hK K hS
  try simp only [Act.put, List.setIfInBounds_toArray, List.set_cons_zero, List.set_cons_succ]
  have hS := hS6
  have f6 := hbx6.frozen 0
  have k6 := hbx6.cell 0
  simp only [List.getElem?_toArray, List.getElem?_cons_succ, List.getElem?_cons_zero] at k6
  have hsz6 := hgrow1.size
  refine wpAnyL_take0 (i := 8) (oi := { dst := some 58, op := Go.Op.nilCheck (Go.Operand.tmp 50), type := 0, pos := "ref.go:34", after := #[{ on := 0, ground := Go.Ground.data }, { on := 0, ground := Go.Ground.phase }, { on := 1, ground := Go.Ground.phase }, { on := 2, ground := Go.Ground.phase }, { on := 3, ground := Go.Ground.phase }, { on := 4, ground := Go.Ground.phase }, { on := 5, ground := Go.Ground.phase }, { on := 6, ground := Go.Ground.phase }, { on := 7, ground := Go.Ground.phase }], guard := none }) (v := .pointer (some ⟨xb, 0, none⟩)) rfl (by kernel_rfl) (by kernel_rfl) (by kernel_rfl) (by kernel_rfl) (fun _ _ _ h => h) hS (Or.inl ⟨by rfl, fun w hSw => ?_⟩) ?_
  · go_split_ands
    go_simp
  try simp only [Act.put, List.setIfInBounds_toArray, List.set_cons_zero, List.set_cons_succ]
  refine wpAnyL_take0 (i := 9) (oi := { dst := some 59, op := Go.Op.fieldAddr 89 (Go.Operand.tmp 58) 0, type := 0, pos := "ref.go:34", after := #[{ on := 8, ground := Go.Ground.data }, { on := 0, ground := Go.Ground.phase }, { on := 1, ground := Go.Ground.phase }, { on := 2, ground := Go.Ground.phase }, { on := 3, ground := Go.Ground.phase }, { on := 4, ground := Go.Ground.phase }, { on := 5, ground := Go.Ground.phase }, { on := 6, ground := Go.Ground.phase }, { on := 7, ground := Go.Ground.phase }], guard := none }) (v := .pointer (some ⟨xb, 0, none⟩)) rfl (by kernel_rfl) (by kernel_rfl) (by kernel_rfl) (by kernel_rfl) (fun _ _ _ h => h) hS (Or.inl ⟨by rfl, fun w hSw => ?_⟩) ?_
  · go_split_ands
    go_simp
  try simp only [Act.put, List.setIfInBounds_toArray, List.set_cons_zero, List.set_cons_succ]
  refine wpAnyL_ready (rs := [10]) (by kernel_rfl) (by simp) ?_
  refine AllReadyL.cons (o := { dst := none, op := Go.Op.store 86 (Go.Operand.tmp 59) (Go.Operand.tmp 57), type := 0, pos := "ref.go:34", after := #[{ on := 9, ground := Go.Ground.data }, { on := 7, ground := Go.Ground.data }, { on := 7, ground := Go.Ground.chain }, { on := 0, ground := Go.Ground.phase }, { on := 1, ground := Go.Ground.phase }, { on := 2, ground := Go.Ground.phase }, { on := 3, ground := Go.Ground.phase }, { on := 4, ground := Go.Ground.phase }, { on := 5, ground := Go.Ground.phase }, { on := 6, ground := Go.Ground.phase }, { on := 7, ground := Go.Ground.phase }], guard := none }) rfl (fun K hK => ?_) AllReadyL.nil
  go_simp
  refine hK.out _ _ (late_noR (by kernel_rfl)) ?_
  clear hK K hS hS6
  try simp only [Act.put, List.setIfInBounds_toArray, List.set_cons_zero, List.set_cons_succ]
  refine wpAnyL_done (by kernel_rfl) ?_ _
  have hx1 : (Value.slice (some ⟨g1, 0, none⟩) (ns.length + 1) cap1).ownBlock ≠ some xb := own_ne hown1 (fun cur e => by have h1 := hbx6; unfold Blk at h1; rw [h1] at e; cases e)
  have hfin : RefA base (W6.setCell ⟨xb, 0, none⟩ (.slice (some ⟨g1, 0, none⟩) (ns.length + 1) cap1)) xb (.slice (some ⟨g1, 0, none⟩) (ns.length + 1) cap1) Lv (ns ++ [(rn, (.slice A2 n2 q2))]) lv := by
    refine ⟨hbx6.set_ 0 _, hA4.ge, ?_, ownsRow_setCell_other hliv6 (own_ne hliv6 fun cur e => ?_) _, ?_⟩
    · rw [List.length_append, rrow_snoc]
      exact ownsRow_setCell_other hown1 hx1 _
    · have h1 := hbx6; unfold Blk at h1; rw [h1] at e; cases e
    · intro m hm
      rcases List.mem_append.1 hm with hm | hm
      · exact ownsRow_setCell_other (hls6 m hm) (own_ne (hls6 m hm) fun cur e => by have h1 := hbx6; unfold Blk at h1; rw [h1] at e; cases e) _
      · simp only [List.mem_cons, List.not_mem_nil, or_false] at hm
        subst hm
        have hL2 : OwnR base (W6.setCell ⟨xb, 0, none⟩ (.slice (some ⟨g1, 0, none⟩) (ns.length + 1) cap1)) (.slice A2 n2 q2) r.1.L := ownsRow_setCell_other hlr6 (own_ne hlr6 fun cur e => by have h1 := hbx6; unfold Blk at h1; rw [h1] at e; cases e) _
        rw [HRN.out]; exact hL2
  have hkp : KeepA base w (W6.setCell ⟨xb, 0, none⟩ (.slice (some ⟨g1, 0, none⟩) (ns.length + 1) cap1)) := by
    refine ⟨?_, fun x hx h85 h89 => ?_⟩
    · have h1 := hBe4.mono hbase
      have h2 : Below base w W6 := h1.grown hgrow1 (Nat.le_trans hbase hBe4.size) (own_ge hA4.nodes)
      exact h2.setCell (p := ⟨xb, 0, none⟩) hA4.ge _
    · have e1 := hBe4.block x hx
      have hxx : x ≠ xb := fun e => h89 _ _ (by rw [e]; exact HH.out.blk)
      have hxg' : x ≠ g := fun e => by
        obtain ⟨cs, h2⟩ := own_cells HH.out.nodes g rfl
        exact h85 _ _ (by rw [e]; exact h2)
      rw [Below.heap_setCell _ _ _ _ hxx, hg6 x (Nat.lt_of_lt_of_le hx hBe4.size) hxg']
      exact e1
  generalize W6.setCell ⟨xb, 0, none⟩ (.slice (some ⟨g1, 0, none⟩) (ns.length + 1) cap1) = W7 at *
  obtain ⟨z0, -⟩ := hfin.cells
  have F1 : IntKind.i64.wrap (((ns.length : Int) + 1) - 1) = (ns.length : Int) := by rw [IntWalk.i64_in _ (by omega)]; omega
  have F2 : IntKind.i64.wrap (((ns.length + 1 : Nat) : Int) - 1) = (ns.length : Int) := by rw [IntWalk.i64_in _ (by omega)]; omega
  clear hbx6 hliv6 hls6 hlr6 hown1 hgrow1 k6 f6 hA4 hBe4 hlr4 hg6
  go_wp2_with fail
  go_ret
  rw [HRN.out] at hfin
  exact ⟨_, (.slice A2 n2 q2), rfl, hfin, hkp⟩
end Go.Proofs.Ytgldgdpgbfejmaa
