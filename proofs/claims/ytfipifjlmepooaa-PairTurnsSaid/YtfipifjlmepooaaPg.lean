/- Lists that were handed in; few: a copy of at most forty pairs; own: pairs as the reference has them. -/
import Derived.Test.YtfipifjlmepooaaPf
namespace Go.Proofs.Ytfipifjlmepooaa
open Go.RowKit Go.Lib
set_option linter.unusedVariables false
set_option linter.unusedSimpArgs false
/-- a slice of pairs that was handed in -/
def ArgP (w : World) (a : Option Addr) (len cap : Nat) (ps : List Pr) : Prop :=
  (a = none ∧ len = 0 ∧ cap = 0 ∧ ps = []) ∨
  ∃ x, a = some x ∧ ps.length = len ∧ len ≤ cap ∧ cap ≤ maxLen ∧ ∀ j u, (flat ps)[j]? = some u → w.cell? (x.add j) = some u
theorem ArgP.below {w w' : World} {a : Option Addr} {len cap : Nat} {ps : List Pr} (h : ArgP w a len cap ps) (hb : Below w.heap.size w w') : ArgP w' a len cap ps := by
  rcases h with h | ⟨x, rfl, h1, h2, h3, h4⟩
  · exact .inl h
  · refine .inr ⟨x, rfl, h1, h2, h3, fun j u hj => ?_⟩
    have := h4 j u hj
    exact (hb.cell (World.block_lt_of_cell? w _ this)).trans this
theorem flat_take (xs : List Pr) (k : Nat) : flat (xs.take k) = (flat xs).take (k * 2) := by
  induction xs generalizing k with
  | nil => simp [flat]
  | cons x xs ih =>
    cases k with
    | zero => simp [flat]
    | succ k =>
      have := ih k
      rw [List.take_succ_cons, show (k + 1) * 2 = k * 2 + 2 by omega]
      simp only [flat, List.flatMap_cons] at *
      rw [this]
      rfl
/-- what a copy of at most forty of them is -/
def FewPost (ps : List Pr) (w : World) (e : Ending) (w' : World) : Prop :=
  ∃ g c, e = .returned (.slice (some ⟨g, 0, none⟩) (ps.take 40).length c) ∧ Own w.heap.size w' (.slice (some ⟨g, 0, none⟩) (ps.take 40).length c) (ps.take 40) ∧ Below w.heap.size w w'
set_option maxRecDepth 100000 in
set_option maxHeartbeats 2000000 in
theorem few_any (a : Option Addr) (len cap : Nat) (ps : List Pr) (w : World) (h : ArgP w a len cap ps) :
    Calls Try.prog 14 #[.slice a len cap] w (FewPost ps w) := by
  obtain ⟨i0, hi, hz0, hz1, hz2⟩ := info_parts info33
  have hlit := own_lit w
  have hB0 : Below w.heap.size w (w.alloc (.cells #[] 33)) := (Below.refl _ w).alloc (Nat.le_refl _) _
  rcases h with ⟨rfl, rfl, rfl, rfl⟩ | ⟨x, rfl, hl, hc, hm, hcell⟩
  · go_enter Try.func14, Try.ntmps14
    go_wp2_with (at_builtin; refine wpList_append_own_none rfl _ _ 22 rfl w.heap.size 33 i0 2 Try.underlying22 hi _ _ _ rfl hlit rfl ?_)
    go_ret
    exact ⟨w.heap.size, 0, rfl, hlit, hB0⟩
  · have hcell' : ∀ k, ∀ j u, (flat (ps.take k))[j]? = some u → (w.alloc (.cells #[] 33)).cell? (x.add j) = some u := fun k j u hj => by
      rw [flat_take, List.getElem?_take] at hj
      split at hj
      · have := hcell j u hj
        exact (hB0.cell (World.block_lt_of_cell? w _ this)).trans this
      · cases hj
    unfold maxLen at hm
    have fin : ∀ (v' : Value) (wa : World) (k : Nat), (ps.take 40).length = k → wa.ownsRow w.heap.size 33 2 v' (0 + k) ([] ++ flat (ps.take 40)) → (w.alloc (.cells #[] 33)).grownBy wa (Value.slice (some ⟨w.heap.size, 0, none⟩) 0 0).ownBlock → (v' = .slice none 0 0 ↔ Value.slice (some ⟨w.heap.size, 0, none⟩) 0 0 = .slice none 0 0 ∧ k = 0) → FewPost ps w (.returned v') wa := by
      intro v' wa k hk hown hgrow hnil
      have hB : Below w.heap.size w wa := hB0.grown hgrow (by simp) (own_ge hlit)
      have hO : Own w.heap.size wa v' (ps.take 40) := by
        unfold Own
        rw [hk]
        simpa using hown
      rcases hO.2 with ⟨h1, h0⟩ | ⟨g', cap', cur, h1, _⟩
      · have := (hnil.1 h1).1
        cases this
      · subst h1
        exact ⟨g', cap', rfl, hO, hB⟩
    by_cases h40 : len ≤ 40
    · have e40 : (ps.take 40).length = len := by rw [List.length_take]; omega
      go_enter Try.func14, Try.ntmps14
      go_wp2_with (at_builtin; refine wpList_append_own _ rfl _ _ 22 rfl w.heap.size 33 i0 _ 2 32 Try.underlying22 hi hz0 hz1 hz2 rfl (by decide) _ _ _ rfl hlit x len cap (flat (ps.take 40)) rfl (by rw [flat_length, e40]) (hcell' 40) (flat_one _) (by unfold maxLen; simp; omega) (by simp; omega) (by simp) ?_; intro v' wa hown' hgrow hnil)
      go_ret
      exact fin v' wa len e40 hown' hgrow hnil
    · have e40 : (ps.take 40).length = 40 := by rw [List.length_take]; omega
      go_enter Try.func14, Try.ntmps14
      go_wp2_with (at_builtin; refine wpList_append_own _ rfl _ _ 22 rfl w.heap.size 33 i0 _ 2 32 Try.underlying22 hi hz0 hz1 hz2 rfl (by decide) _ _ _ rfl hlit x 40 cap (flat (ps.take 40)) rfl (by rw [flat_length, e40]) (hcell' 40) (flat_one _) (by unfold maxLen; simp) (by simp) (by simp) ?_; intro v' wa hown' hgrow hnil)
      go_ret
      exact fin v' wa 40 e40 hown' hgrow hnil
/-- a row of pairs of the reference that the call owns -/
def OwnR (base : Nat) (w : World) (v : Value) (xs : List Pr) : Prop := w.ownsRow base 40 2 v xs.length (flat xs)
theorem OwnR.rd {base : Nat} {w : World} {v : Value} {xs : List Pr} (h : OwnR base w v xs) : ∃ A c, v = .slice A xs.length c ∧ Rd w A xs := by
  rcases h.2 with ⟨h1, h0⟩ | ⟨g, cap, cur, rfl, hg, _⟩
  · exact ⟨none, 0, by rw [h1, h0], fun j p hj => by rw [List.length_eq_zero_iff.1 h0] at hj; simp at hj⟩
  · refine ⟨_, cap, rfl, fun j p hj => ⟨g, 0, rfl, ?_⟩⟩
    have hf := flat_get xs j p hj
    obtain ⟨hl, _⟩ := List.getElem?_eq_some_iff.1 hj
    have h' : w.ownsRow base 40 2 (.slice (some ⟨g, 0, none⟩) xs.length cap) xs.length (flat xs) := h
    rw [Nat.zero_add, h'.cellAt (j * 2) (by omega), h'.cellAt (j * 2 + 1) (by omega)]
    exact hf
theorem info40 : (Try.prog.info? 40).map (fun i => (i.zero, i.size, i.bytes)) = some (some (.agg #[.string ByteArray.empty, .string ByteArray.empty]), 2, 32) := by kernel_rfl
set_option maxRecDepth 100000 in
set_option maxHeartbeats 4000000 in
theorem own_any (A : Option Addr) (c : Nat) (xs : List Pr) (w : World) (hR : Rd w A xs) (hn : xs.length ≤ 1000) :
    Calls Try.prog 17 #[.slice A xs.length c] w fun e w' => ∃ v, e = .returned v ∧ OwnR w.heap.size w' v xs ∧ Below w.heap.size w w' := by
  obtain ⟨i0, hi, hz0, hz1, hz2⟩ := info_parts info40
  obtain ⟨n, hxs⟩ : ∃ n, n = xs.length := ⟨_, rfl⟩
  rw [← hxs] at hn ⊢
  have HX := Lib.hid hxs
  have HR := Lib.hid hR
  clear hxs hR
  go_enter Try.func17, Try.ntmps17
  go_wp2_with fail
  go_loopw [3, 8] (fun v i wr => ∃ j : Nat, j ≤ n ∧ i = .int .i64 j ∧ OwnR w.heap.size wr v (xs.take j) ∧ Below w.heap.size w wr) (fun v i wr => n - (intOf i).toNat)
  case atStart => exact ⟨0, by omega, rfl, World.ownsRow_nil _ _ _ _, Below.refl _ _⟩
  case round =>
    obtain ⟨j, hj, rfl, hO, hB⟩ := hrel
    by_cases hlt : j < n
    · obtain ⟨g, off, rfl, c0, c1⟩ := (HR.out.below hB).at j (by rw [← HX.out]; exact hlt)
      have hrow : wr.ownsRow w.heap.size 40 2 u3 (xs.take j).length (flat (xs.take j)) := hO
      have hlj : (xs.take j).length = j := by rw [List.length_take, ← HX.out]; omega
      rw [hlj] at hrow
      have hb2 : Below w.heap.size w (wr.alloc (.cells #[.string (pat xs j).1, .string (pat xs j).2] 33)) := hB.alloc hB.size _
      have hrow2 := hrow.alloc (.cells #[.string (pat xs j).1, .string (pat xs j).2] 33)
      have hbx := Blk.new wr 33 #[.string (pat xs j).1, .string (pat xs j).2]
      have HB := Lib.hid hB
      clear hO hB hlj
      go_upto_region 5 with (fail)
      generalize wr.alloc (.cells #[.string (pat xs j).1, .string (pat xs j).2] 33) = W at *
      generalize wr.heap.size = Bx at *
      have b0 : W.cell? ⟨Bx, 0, none⟩ = some (.string (pat xs j).1) := hbx.cell 0
      have b1 : W.cell? ⟨Bx, 1, none⟩ = some (.string (pat xs j).2) := hbx.cell 1
      clear hbx c0 c1 hrow
      go_wp2_with (at_builtin; refine wpList_append_own _ rfl _ _ 26 rfl w.heap.size 40 i0 _ 2 32 Try.underlying26 hi hz0 hz1 hz2 rfl (by decide) _ _ _ rfl (hrow2.alloc _) ⟨W.heap.size, 0, none⟩ 1 1 [.string (pat xs j).1, .string (pat xs j).2] rfl rfl (cell_two_new _ _ _ _) (flat_cell (pat xs j)) (by unfold maxLen; omega) (by omega) (by have := hb2.size; simp; omega) ?_; intro v' wa hown' hgrow hnil)
      have hB5 : Below w.heap.size w wa := (hb2.alloc hb2.size _).grown hgrow (by have := hb2.size; simp; omega) (own_ge hrow2)
      refine ⟨⟨j + 1, by omega, by go_num, ?_, hB5⟩, by simp [intOf]; omega⟩
      have et : xs.take (j + 1) = xs.take j ++ [pat xs j] := by
        have hl : j < xs.length := by rw [← HX.out]; exact hlt
        rw [List.take_succ_eq_append_getElem hl]
        simp [pat, hl]
      unfold OwnR
      rw [et, flat_snoc, List.length_append, List.length_take, ← HX.out, Nat.min_eq_left hj]
      exact hown'
    · go_wp2_with fail
      go_ret
      rw [List.take_of_length_le (by rw [← HX.out]; omega)] at hO
      exact ⟨_, rfl, hO, hB⟩
end Go.Proofs.Ytfipifjlmepooaa
