/- Grow of nothing, Concat of at most three lists; Put and Drop of package pair. -/
import Derived.Test.YtfipifjlmepooaaRb
import Derived.Lib.AppendZeros
namespace Go.Proofs.Ytfipifjlmepooaa
open Go.RowKit Go.Lib
set_option linter.unusedVariables false
set_option linter.unusedSimpArgs false
theorem zeroCells_size (z : Array Value) (n : Nat) : (Builtin.zeroCells z n).size = n * z.size := by simp [Builtin.zeroCells]
theorem own_room (w : World) (cur : Array Value) (C : Nat) (hc : cur.size = C * 2) (hm : C ≤ maxLen) : Own w.heap.size ((w.alloc (.cells cur 33)).drew) (.slice (some ⟨w.heap.size, 0, none⟩) 0 C) [] :=
  ⟨rfl, .inr ⟨w.heap.size, C, cur, rfl, Nat.le_refl _, (Blk.new w 33 cur), Nat.zero_le _, hm, hc, by simp [flat]⟩⟩
set_option maxRecDepth 100000 in
set_option maxHeartbeats 4000000 in
theorem grow_nil (n : Nat) (w : World) (hn : n ≤ 4000) :
    Calls Try.prog 53 #[.slice none 0 0, .int .i64 n] w fun e w' => ∃ v, e = .returned v ∧ Own w.heap.size w' v [] ∧ Below w.heap.size w w' := by
  obtain ⟨i0, hi, hz0, hz1, hz2⟩ := info_parts info33
  by_cases h0 : n = 0
  · subst h0
    go_enter Try.func53, Try.ntmps53
    go_wp2_with fail
    go_ret
    exact ⟨_, rfl, World.ownsRow_nil _ _ _ _, Below.refl _ _⟩
  · have hr := Lib.run_append_nil_zeros w 22 3 22 33 i0 _ .i64 .i64 Try.underlying22 Try.underlying3 hi hz0 n (by omega) (by rw [hz1]; decide) (by omega) (by rw [hz2]; omega)
    have hcg := grownCap_ge w n 0 33
    have hcm := grownCap_le_maxLen w n 0 33 (by unfold maxLen; omega)
    have F1 : IntKind.i64.wrap ((n : Int) - 0) = (n : Int) := by rw [IntWalk.i64_in _ (by omega)]; omega
    have F2 : (0 : Int) < (n : Int) := by omega
    generalize grownCap w n 0 33 = C at *
    go_enter Try.func53, Try.ntmps53
    go_wp2_with (at_builtin; refine Lib.wpList_append_run _ rfl _ _ _ _ rfl _ _ rfl rfl _ _ hr ?_)
    go_ret
    refine ⟨_, rfl, own_room w _ C ?_ hcm, ((Below.refl _ w).alloc (Nat.le_refl _) _).drew⟩
    simp [zeroCells_size]
    omega
/-- lists that stand one behind the other: where each is, its room, its pairs -/
abbrev Seg := Option Addr × Nat × List Pr
/-- a list of lists in memory -/
def Segs (w : World) (g : Nat) (L : List Seg) : Prop := ∀ j s, L[j]? = some s → w.cell? ⟨g, j, none⟩ = some (.slice s.1 s.2.2.length s.2.1) ∧ Rd w s.1 s.2.2 ∧ (s.1 = none → s.2.1 = 0)
theorem Segs.below {w w' : World} {g : Nat} {L : List Seg} (h : Segs w g L) (hb : Below w.heap.size w w') : Segs w' g L := fun j s hj => by
  obtain ⟨h1, h2, h3⟩ := h j s hj
  exact ⟨(hb.cell (World.block_lt_of_cell? w _ h1)).trans h1, h2.below hb, h3⟩
/-- all their pairs -/
def catL (L : List Seg) : List Pr := L.flatMap fun s => s.2.2
theorem cat_take (L : List Seg) (j : Nat) (s : Seg) (h : L[j]? = some s) : catL (L.take (j + 1)) = catL (L.take j) ++ s.2.2 := by
  obtain ⟨hl, he⟩ := List.getElem?_eq_some_iff.1 h
  rw [List.take_succ_eq_append_getElem hl, he]
  simp [catL]
theorem Rd.none_nil {w : World} {xs : List Pr} (h : Rd w none xs) : xs = [] := by
  cases xs with
  | nil => rfl
  | cons x r =>
    obtain ⟨g, off, e, _⟩ := h 0 x rfl
    cases e
theorem Rd.off {w : World} {a : Addr} {xs : List Pr} (h : Rd w (some a) xs) (h0 : xs ≠ []) : ∃ g off, a = ⟨g, off, none⟩ := by
  obtain ⟨g, off, e⟩ := h.starts (List.length_pos_iff.2 h0)
  exact ⟨g, off, Option.some.inj e⟩
theorem Rd.cells' {w : World} {a : Addr} {xs : List Pr} (h : Rd w (some a) xs) : ∀ j u, (flat xs)[j]? = some u → w.cell? (a.add j) = some u := by
  by_cases h0 : xs = []
  · subst h0; intro j u hj; simp [flat] at hj
  · obtain ⟨g, off, rfl⟩ := h.off h0
    exact h.cells
theorem Own.cat {base : Nat} {w : World} {v : Value} {X Y : List Pr} (h : w.ownsRow base 33 2 v (X.length + Y.length) (flat X ++ flat Y)) : Own base w v (X ++ Y) := by
  unfold Own
  rw [flat_append, List.length_append]
  exact h
set_option maxRecDepth 100000 in
set_option maxHeartbeats 8000000 in
theorem concat_any (g c : Nat) (L : List Seg) (w : World) (hS : Segs w g L) (hL : L.length ≤ 3) (hm : ∀ s ∈ L, s.2.2.length ≤ 1000) :
    Calls Try.prog 50 #[.slice (some ⟨g, 0, none⟩) L.length c] w fun e w' => ∃ v, e = .returned v ∧ Own w.heap.size w' v (catL L) ∧ Below w.heap.size w w' := by
  obtain ⟨i0, hi, hz0, hz1, hz2⟩ := info_parts info33
  obtain ⟨N, hN⟩ : ∃ N, N = L.length := ⟨_, rfl⟩
  rw [← hN] at hL ⊢
  have HN := Lib.hid hN
  have HS := Lib.hid hS
  have HM := Lib.hid hm
  clear hN hS hm
  go_enter Try.func50, Try.ntmps50
  go_wp2_with fail
  go_loopw [3, 11] (fun vs vi wr => ∃ (i m : Nat), vi = .int .i64 i ∧ vs = .int .i64 m ∧ i ≤ N ∧ m ≤ 1000 * i ∧ w = wr) (fun vs vi wr => N - (intOf vi).toNat)
  case atStart => exact ⟨0, 0, rfl, rfl, Nat.zero_le _, Nat.zero_le _, rfl⟩
  case round =>
    obtain ⟨i, m, rfl, rfl, hi1, hm1, rfl⟩ := hrel
    by_cases hlt : i < N
    · obtain ⟨s, hs⟩ : ∃ s, L[i]? = some s := ⟨_, List.getElem?_eq_getElem (by rw [← HN.out]; exact hlt)⟩
      obtain ⟨c0, -, -⟩ := HS.out i s hs
      have hl := HM.out s (List.mem_of_getElem? hs)
      clear hs
      obtain ⟨A, cA, xs⟩ := s
      simp only at c0 hl
      generalize xs.length = n at *
      have F1 : IntKind.i64.wrap ((m : Int) + (n : Int)) = ((m + n : Nat) : Int) := by rw [IntWalk.i64_in _ (by omega)]; omega
      have F2 : ¬ (((m + n : Nat) : Int) < 0) := by omega
      obtain ⟨M, hM⟩ : ∃ M, M = m + n := ⟨_, rfl⟩
      rw [← hM] at F1 F2
      have hM2 : M ≤ 1000 * (i + 1) := by omega
      clear hM
      go_wp2_with fail
      exact ⟨⟨i + 1, M, by go_num, rfl, by omega, hM2, trivial⟩, by simp [intOf]; omega⟩
    · obtain rfl : i = N := by omega
      go_wp2_with fail
      refine (grow_nil m w (by omega)).mono ?_
      rintro e w1 ⟨v0, rfl, hO0, hB0⟩
      go_wp2_with fail
      go_loopw [6, 27] (fun vs vi wr => ∃ (j : Nat) (X : List Pr), vi = .int .i64 j ∧ j ≤ i ∧ Hid (X = catL (L.take j)) ∧ X.length ≤ 1000 * j ∧ Own w.heap.size wr vs X ∧ Below w.heap.size w wr) (fun vs vi wr => i - (intOf vi).toNat)
      case atStart => exact ⟨0, [], rfl, Nat.zero_le _, Lib.hid (by simp [catL]), by simp, hO0, hB0⟩
      case round =>
        clear hO0 hB0
        obtain ⟨j, X, rfl, hj, hX, hXl, hO, hB⟩ := hrel
        by_cases hlt2 : j < i
        · obtain ⟨s, hs⟩ : ∃ s, L[j]? = some s := ⟨_, List.getElem?_eq_getElem (by rw [← HN.out]; exact hlt2)⟩
          obtain ⟨c0, hRd, hnone⟩ := HS.out.below hB j s hs
          have hl := HM.out s (List.mem_of_getElem? hs)
          have HT := Lib.hid (cat_take L j s hs)
          clear hs
          obtain ⟨A, cA, xs⟩ := s
          simp only at c0 hl hRd hnone HT
          have HY : Hid (X ++ xs = catL (L.take (j + 1))) := Lib.hid (by rw [HT.out, ← hX.out])
          have hrow : wr.ownsRow w.heap.size 33 2 u6 X.length (flat X) := hO
          cases A with
          | none =>
            obtain rfl := hnone rfl
            obtain rfl := hRd.none_nil
            rw [List.append_nil] at HY
            rw [List.length_nil] at c0
            go_wp2_with (at_builtin; refine wpList_append_own_none rfl _ _ 22 rfl w.heap.size 33 i0 2 Try.underlying22 hi _ _ _ rfl hrow rfl ?_)
            exact ⟨⟨j + 1, X, by go_num, by omega, HY, by omega, hO, hB⟩, by simp [intOf]; omega⟩
          | some a =>
            have hcells := hRd.cells'
            clear hRd hnone
            go_wp2_with (at_builtin; refine wpList_append_own _ rfl _ _ 22 rfl w.heap.size 33 i0 _ 2 32 Try.underlying22 hi hz0 hz1 hz2 rfl (by decide) _ _ _ rfl hrow a xs.length cA (flat xs) rfl (flat_length xs) hcells (flat_one xs) (by unfold maxLen; omega) (by omega) hB.size ?_; intro v' wa hown' hgrow hnil)
            have hB5 : Below w.heap.size w wa := hB.grown hgrow hB.size (own_ge hrow)
            exact ⟨⟨j + 1, X ++ xs, by go_num, by omega, HY, by rw [List.length_append]; omega, Own.cat hown', hB5⟩, by simp [intOf]; omega⟩
        · go_wp2_with fail
          go_ret
          have e1 := hX.out
          rw [List.take_of_length_le (by rw [← HN.out]; omega)] at e1
          subst e1
          exact ⟨_, rfl, hO, hB⟩
end Go.Proofs.Ytfipifjlmepooaa
