/- The reference's Put. -/
import Derived.Test.YtgldgdpgbfejmaaQc
namespace Go.Proofs.Ytgldgdpgbfejmaa
open Go.RowKit Go.Lib
set_option linter.unusedVariables false
set_option linter.unusedSimpArgs false
theorem insK_at (p : Pr) (D : List Pr) (j : Nat) (h : j < D.length) : insK p (D.drop j) = if ltB p.1 (pat D j).1 = true then p :: pat D j :: D.drop (j + 1) else pat D j :: insK p (D.drop (j + 1)) := by
  have e : D.drop j = pat D j :: D.drop (j + 1) := by
    rw [List.drop_eq_getElem_cons h]; simp [pat, h]
  rw [e]; rfl
theorem insK_end (p : Pr) (D : List Pr) (j : Nat) (h : D.length ≤ j) : insK p (D.drop j) = [p] := by
  rw [List.drop_of_length_le h]; rfl
theorem drop_at (D : List Pr) (j : Nat) (h : j < D.length) : D.drop j = pat D j :: D.drop (j + 1) := by
  rw [List.drop_eq_getElem_cons h]; simp [pat, h]
/-- what is in out when j of D have come by -/
def OutP (p : Pr) (D : List Pr) (j : Nat) (b : Bool) (X : List Pr) : Prop :=
  X ++ (if b = true then D.drop j else insK p (D.drop j)) = insK p D ∧ X.length ≤ j + b.toNat
theorem OutP.start (p : Pr) (D : List Pr) : OutP p D 0 false [] := ⟨by simp, by simp⟩
theorem OutP.in {p : Pr} {D : List Pr} {j : Nat} {X : List Pr} (h : OutP p D j false X) (hj : j < D.length) (hl : ltB p.1 (pat D j).1 = true) : OutP p D (j + 1) true (X ++ [p] ++ [pat D j]) := by
  obtain ⟨h, hX⟩ := h
  simp at hX
  rw [if_neg (by simp), insK_at p D j hj, if_pos hl] at h
  exact ⟨by rw [← h]; simp, by simp; omega⟩
theorem OutP.on {p : Pr} {D : List Pr} {j : Nat} {X : List Pr} (h : OutP p D j false X) (hj : j < D.length) (hl : ltB p.1 (pat D j).1 = false) : OutP p D (j + 1) false (X ++ [pat D j]) := by
  obtain ⟨h, hX⟩ := h
  simp at hX
  rw [if_neg (by simp), insK_at p D j hj, if_neg (by rw [hl]; simp)] at h
  exact ⟨by rw [← h]; simp, by simp; omega⟩
theorem OutP.next {p : Pr} {D : List Pr} {j : Nat} {X : List Pr} (h : OutP p D j true X) (hj : j < D.length) : OutP p D (j + 1) true (X ++ [pat D j]) := by
  obtain ⟨h, hX⟩ := h
  simp at hX
  rw [if_pos rfl, drop_at D j hj] at h
  exact ⟨by rw [← h]; simp, by simp; omega⟩
theorem OutP.done {p : Pr} {D : List Pr} {j : Nat} {X : List Pr} (h : OutP p D j true X) (hj : D.length ≤ j) : X = insK p D := by
  rw [← h.1, if_pos rfl, List.drop_of_length_le hj]; simp
theorem OutP.last {p : Pr} {D : List Pr} {j : Nat} {X : List Pr} (h : OutP p D j false X) (hj : D.length ≤ j) : X ++ [p] = insK p D := by
  rw [← h.1, if_neg (by simp), insK_end p D j hj]
theorem sized_drop {xs : List Pr} (h : Sized xs) (k : ByteArray) : Sized (dropK xs k) := by
  intro j
  by_cases hj : j < (dropK xs k).length
  · have hm : (pat (dropK xs k) j) ∈ dropK xs k := by unfold pat; rw [List.getElem?_eq_getElem hj]; exact List.getElem_mem _
    have := (List.mem_filter.1 hm).1
    obtain ⟨i, hi, e⟩ := List.getElem_of_mem this
    have := h i
    unfold pat at this
    rw [List.getElem?_eq_getElem hi] at this
    simpa [e] using this
  · unfold pat
    rw [List.getElem?_eq_none (by omega)]
    simp [maxLen]
theorem OwnR.base {b b' : Nat} {w : World} {v : Value} {xs : List Pr} (h : OwnR b w v xs) (hb : b' ≤ b) : OwnR b' w v xs := by
  refine ⟨h.1, ?_⟩
  rcases h.2 with h1 | ⟨g, cap, cur, h1, h2, h3⟩
  · exact .inl h1
  · exact .inr ⟨g, cap, cur, h1, Nat.le_trans hb h2, h3⟩
theorem OwnR.snoc {base : Nat} {w : World} {v : Value} {R : List Pr} {p : Pr} (h : w.ownsRow base 81 2 v (R.length + 1) (flat R ++ [.string p.1, .string p.2])) : OwnR base w v (R ++ [p]) := by
  unfold OwnR
  rw [flat_snoc, List.length_append]
  exact h
set_option maxRecDepth 100000 in
set_option maxHeartbeats 4000000 in
theorem refPut_any (A : Option Addr) (c : Nat) (xs : List Pr) (p : Pr) (w : World) (hR : Rd w A xs) (hn : xs.length ≤ 900) (hz : Sized xs) (hp : p.1.size ≤ maxLen) :
    Calls Try.prog 68 #[.slice A xs.length c, p.v] w fun e w' => ∃ v, e = .returned v ∧ OwnR w.heap.size w' v (putK xs p) ∧ Below w.heap.size w w' := by
  obtain ⟨i0, hi, hz0, hz1, hz2⟩ := info_parts info40
  have hB0 : Below w.heap.size w (w.alloc (.cells #[.string p.1, .string p.2] 81)) := (Below.refl _ w).alloc (Nat.le_refl _) _
  have hR0 := hR.below hB0
  have hbx := Blk.new w 81 #[.string p.1, .string p.2]
  have hlt0 : w.heap.size < (w.alloc (.cells #[.string p.1, .string p.2] 81)).heap.size := by simp
  have hzD := sized_drop hz p.1
  have hDl : (dropK xs p.1).length ≤ 900 := Nat.le_trans (List.length_filter_le _ _) hn
  have hgoal : putK xs p = insK p (dropK xs p.1) := rfl
  rw [hgoal]
  obtain ⟨D, hD⟩ : ∃ D, D = dropK xs p.1 := ⟨_, rfl⟩
  rw [← hD] at hzD hDl ⊢
  have HDK := Lib.hid hD
  clear hgoal hD
  unfold Pr.v
  go_enter Try.func68, Try.ntmps68
  go_upto_region 3 with (fail)
  generalize w.alloc (.cells #[.string p.1, .string p.2] 81) = W0 at *
  have b0 : W0.cell? ⟨w.heap.size, 0, none⟩ = some (.string p.1) := hbx.cell 0
  have b1 : W0.cell? ⟨w.heap.size, 1, none⟩ = some (.string p.2) := hbx.cell 1
  go_wp2_with fail
  refine (refDrop_any A c xs p.1 W0 hR0 (by omega)).mono ?_
  rintro e w1 ⟨v1, rfl, hO1, hB1⟩
  rw [← HDK.out] at hO1
  obtain ⟨A1, c1, rfl, hR1⟩ := hO1.rd
  have hW1 := hB0.trans (hB1.mono hB0.size)
  have b0' : w1.cell? ⟨w.heap.size, 0, none⟩ = some (.string p.1) := (hB1.cell hlt0).trans b0
  have b1' : w1.cell? ⟨w.heap.size, 1, none⟩ = some (.string p.2) := (hB1.cell hlt0).trans b1
  have hlt1 : w.heap.size < w1.heap.size := Nat.lt_of_lt_of_le hlt0 hB1.size
  clear hO1 hbx hB0 hB1 b0 b1 hR0 hR hn hz
  obtain ⟨m, hm⟩ : ∃ m, m = D.length := ⟨_, rfl⟩
  rw [← hm] at hDl ⊢
  have HD := Lib.hid hm
  have HR := Lib.hid hR1
  have HZ := Lib.hid hzD
  have HW1 := Lib.hid hW1
  clear hm hR1 hzD hW1
  go_wp2_with fail
  go_loopw [5, 6, 14] (fun v pl i wr => ∃ (j : Nat) (b : Bool) (X : List Pr), j ≤ m ∧ i = .int .i64 j ∧ pl = .bool b ∧ OutP p D j b X ∧ OwnR w1.heap.size wr v X ∧ Below w1.heap.size w1 wr) (fun v pl i wr => m - (intOf i).toNat)
  case atStart => exact ⟨0, false, [], by omega, rfl, rfl, OutP.start p D, World.ownsRow_nil _ _ _ _, Below.refl _ _⟩
  case round =>
    obtain ⟨j, b, X, hj, rfl, rfl, hX, hO, hB⟩ := hrel
    have p0 : wr.cell? ⟨w.heap.size, 0, none⟩ = some (.string p.1) := (hB.cell hlt1).trans b0'
    have p1 : wr.cell? ⟨w.heap.size, 1, none⟩ = some (.string p.2) := (hB.cell hlt1).trans b1'
    have hXl := hX.2
    have hXl2 : X.length ≤ 1000 := by have := Bool.toNat_le b; omega
    have HX := Lib.hid hX
    clear hX hXl
    by_cases hlt : j < m
    · obtain ⟨g, off, rfl, c0, c1'⟩ := (HR.out.below hB).at j (by rw [← HD.out]; exact hlt)
      have hrow : wr.ownsRow w1.heap.size 81 2 u5 X.length (flat X) := hO
      have hb2 : Below w1.heap.size w1 (wr.alloc (.cells #[.string (pat D j).1, .string (pat D j).2] 81)) := hB.alloc hB.size _
      have hrow2 := hrow.alloc (.cells #[.string (pat D j).1, .string (pat D j).2] 81)
      have hbx := Blk.new wr 81 #[.string (pat D j).1, .string (pat D j).2]
      have hlB : wr.heap.size < (wr.alloc (.cells #[.string (pat D j).1, .string (pat D j).2] 81)).heap.size := by simp
      have p0' : (wr.alloc (.cells #[.string (pat D j).1, .string (pat D j).2] 81)).cell? ⟨w.heap.size, 0, none⟩ = some (.string p.1) := (hb2.cell hlt1).trans b0'
      have p1' : (wr.alloc (.cells #[.string (pat D j).1, .string (pat D j).2] 81)).cell? ⟨w.heap.size, 1, none⟩ = some (.string p.2) := (hb2.cell hlt1).trans b1'
      have hne : some wr.heap.size ≠ u5.ownBlock := fun e => by have := (World.ownsRow.lt hrow _ e.symm).2; omega
      clear hO hB p0 p1 b0' b1'
      go_upto_region 6 with (fail)
      generalize wr.alloc (.cells #[.string (pat D j).1, .string (pat D j).2] 81) = W at *
      generalize wr.heap.size = Bx at *
      have q0 : W.cell? ⟨Bx, 0, none⟩ = some (.string (pat D j).1) := hbx.cell 0
      have q1 : W.cell? ⟨Bx, 1, none⟩ = some (.string (pat D j).2) := hbx.cell 1
      clear hbx c0 c1' hrow
      have hjD : j < D.length := by rw [← HD.out]; exact hlt
      cases b with
      | true =>
        have HN := Lib.hid (HX.out.next hjD)
        go_wp2_with (at_builtin; refine wpList_append_own _ rfl _ _ 83 rfl w1.heap.size 81 i0 _ 2 32 Try.underlying83 hi hz0 hz1 hz2 rfl (by decide) _ _ _ rfl (hrow2.alloc _) ⟨W.heap.size, 0, none⟩ 1 1 [.string (pat D j).1, .string (pat D j).2] rfl rfl (cell_two_new _ _ _ _) (flat_cell (pat D j)) (by unfold maxLen; omega) (by omega) (by have := hb2.size; simp; omega) ?_; intro v' wa hown' hgrow hnil)
        have hB5 : Below w1.heap.size w1 wa := (hb2.alloc hb2.size _).grown hgrow (by have := hb2.size; simp; omega) (own_ge hrow2)
        exact ⟨⟨j + 1, true, X ++ [pat D j], by omega, by go_num, rfl, HN.out, OwnR.snoc hown', hB5⟩, by simp [intOf]; omega⟩
      | false =>
        go_wp2_with fail
        refine (less_any p.1 (pat D j).1 W hp (HZ.out j)).mono ?_
        rintro e w' ⟨rfl, nq, rfl⟩
        have hrow3 : (W.drewN nq).ownsRow w1.heap.size 81 2 u5 X.length (flat X) := hrow2
        have hb3 : Below w1.heap.size w1 (W.drewN nq) := ⟨hb2.os, hb2.tape, hb2.output, hb2.size, hb2.block⟩
        have p03 : (W.drewN nq).cell? ⟨w.heap.size, 0, none⟩ = some (.string p.1) := p0'
        have p13 : (W.drewN nq).cell? ⟨w.heap.size, 1, none⟩ = some (.string p.2) := p1'
        have q03 : (W.drewN nq).cell? ⟨Bx, 0, none⟩ = some (.string (pat D j).1) := q0
        have q13 : (W.drewN nq).cell? ⟨Bx, 1, none⟩ = some (.string (pat D j).2) := q1
        have hlB3 : Bx < (W.drewN nq).heap.size := hlB
        clear hrow2 hb2 p0' p1' q0 q1 hlB
        generalize W.drewN nq = W2 at *
        cases hv : ltB p.1 (pat D j).1 with
        | true =>
          have HN := Lib.hid (HX.out.in hjD hv)
          have hA2 : Below W2.heap.size W2 (W2.alloc (.cells #[.string p.1, .string p.2] 81)) := (Below.refl _ W2).alloc (Nat.le_refl _) _
          clear hv
          go_upto_region 8 with (at_builtin; refine wpList_append_own _ rfl _ _ 83 rfl w1.heap.size 81 i0 _ 2 32 Try.underlying83 hi hz0 hz1 hz2 rfl (by decide) _ _ _ rfl (hrow3.alloc _) ⟨W2.heap.size, 0, none⟩ 1 1 [.string p.1, .string p.2] rfl rfl (cell_two_new _ _ _ _) (flat_cell p) (by unfold maxLen; omega) (by omega) (by have := hb3.size; simp; omega) ?_; intro v' wa hown' hgrow hnil; have q04 := hgrow.cell ((hA2.cell hlB3).trans q03) hne; have q14 := hgrow.cell ((hA2.cell hlB3).trans q13) hne)
          have hB5 : Below w1.heap.size w1 wa := (hb3.alloc hb3.size _).grown hgrow (by have := hb3.size; simp; omega) (own_ge hrow3)
          have hrow4 : wa.ownsRow w1.heap.size 81 2 v' (X.length + 1) (flat X ++ [.string p.1, .string p.2]) := hown'
          clear hgrow hnil hown' hrow3 hb3 p03 p13 q03 q13
          go_wp2_with (at_builtin; refine wpList_append_own _ rfl _ _ 83 rfl w1.heap.size 81 i0 _ 2 32 Try.underlying83 hi hz0 hz1 hz2 rfl (by decide) _ _ _ rfl (hrow4.alloc _) ⟨wa.heap.size, 0, none⟩ 1 1 [.string (pat D j).1, .string (pat D j).2] rfl rfl (cell_two_new _ _ _ _) (flat_cell (pat D j)) (by unfold maxLen; omega) (by omega) (by have := hB5.size; simp; omega) ?_; intro v2 wb hown2 hgrow2 hnil2)
          have hB6 : Below w1.heap.size w1 wb := (hB5.alloc hB5.size _).grown hgrow2 (by have := hB5.size; simp; omega) (own_ge hrow4)
          refine ⟨⟨j + 1, true, X ++ [p] ++ [pat D j], by omega, by go_num, rfl, HN.out, ?_, hB6⟩, by simp [intOf]; omega⟩
          refine OwnR.snoc ?_
          rw [flat_snoc, List.length_append]
          exact hown2
        | false =>
          have HN := Lib.hid (HX.out.on hjD hv)
          clear hv
          go_wp2_with (at_builtin; refine wpList_append_own _ rfl _ _ 83 rfl w1.heap.size 81 i0 _ 2 32 Try.underlying83 hi hz0 hz1 hz2 rfl (by decide) _ _ _ rfl (hrow3.alloc _) ⟨W2.heap.size, 0, none⟩ 1 1 [.string (pat D j).1, .string (pat D j).2] rfl rfl (cell_two_new _ _ _ _) (flat_cell (pat D j)) (by unfold maxLen; omega) (by omega) (by have := hb3.size; simp; omega) ?_; intro v' wa hown' hgrow hnil)
          have hB5 : Below w1.heap.size w1 wa := (hb3.alloc hb3.size _).grown hgrow (by have := hb3.size; simp; omega) (own_ge hrow3)
          exact ⟨⟨j + 1, false, X ++ [pat D j], by omega, by go_num, rfl, HN.out, OwnR.snoc hown', hB5⟩, by simp [intOf]; omega⟩
    · have hjD : D.length ≤ j := by rw [← HD.out]; omega
      have hrow : wr.ownsRow w1.heap.size 81 2 u5 X.length (flat X) := hO
      have hfin : ∀ (v : Value) (wa : World), OwnR w1.heap.size wa v (insK p D) → Below w1.heap.size w1 wa → OwnR w.heap.size wa v (insK p D) ∧ Below w.heap.size w wa := fun v wa h1 h2 => ⟨h1.base HW1.out.size, HW1.out.trans (h2.mono HW1.out.size)⟩
      have HF := Lib.hid hfin
      clear hO hfin
      cases b with
      | true =>
        have HN := Lib.hid (HX.out.done hjD)
        go_wp2_with fail
        go_ret
        have e1 := HN.out
        subst e1
        obtain ⟨h1, h2⟩ := HF.out _ _ hrow hB
        exact ⟨_, rfl, h1, h2⟩
      | false =>
        have HN := Lib.hid (HX.out.last hjD)
        go_wp2_with (at_builtin; refine wpList_append_own _ rfl _ _ 83 rfl w1.heap.size 81 i0 _ 2 32 Try.underlying83 hi hz0 hz1 hz2 rfl (by decide) _ _ _ rfl (hrow.alloc _) ⟨wr.heap.size, 0, none⟩ 1 1 [.string p.1, .string p.2] rfl rfl (cell_two_new _ _ _ _) (flat_cell p) (by unfold maxLen; omega) (by omega) (by have := hB.size; simp; omega) ?_; intro v' wa hown' hgrow hnil)
        have hB5 : Below w1.heap.size w1 wa := (hB.alloc hB.size _).grown hgrow (by have := hB.size; simp; omega) (own_ge hrow)
        go_ret
        have hX' := OwnR.snoc hown'
        rw [HN.out] at hX'
        obtain ⟨h1, h2⟩ := HF.out _ _ hX' hB5
        exact ⟨_, rfl, h1, h2⟩
end Go.Proofs.Ytgldgdpgbfejmaa
