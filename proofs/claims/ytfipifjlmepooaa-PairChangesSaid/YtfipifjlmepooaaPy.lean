/- The stable sort of lists of at most forty pairs. -/
import Derived.Test.YtfipifjlmepooaaPw
namespace Go.Proofs.Ytfipifjlmepooaa
open Go.RowKit Go.Lib
set_option linter.unusedVariables false
set_option linter.unusedSimpArgs false
theorem SortPost.re {base g cap a b : Nat} {xs : List Pr} {w : World} {e : Ending} {w' : World} (h : SortPost base g cap xs a b w e w') : e = .returned (.tuple #[]) ∧ ∃ ys, Own base w' (.slice (some ⟨g, 0, none⟩) xs.length cap) ys ∧ ys.length = xs.length ∧ Stab xs ys ∧ (∀ p, p < a ∨ b ≤ p → ys[p]? = xs[p]?) ∧ Srt ys a b ∧ Keep [g] w w' := h
theorem srt_keep {xs ys : List Pr} {a b c d : Nat} (hU : ∀ p, p < a ∨ b ≤ p → ys[p]? = xs[p]?) (hs : Srt xs c d) (hd : d ≤ a ∨ b ≤ c) : Srt ys c d := fun p q p1 p2 p3 => by
  have ep : kat ys p = kat xs p := by unfold kat; rw [pat_congr (hU p (by omega))]
  have eq : kat ys q = kat xs q := by unfold kat; rw [pat_congr (hU q (by omega))]
  rw [ep, eq]; exact hs p q p1 p2 p3

set_option maxRecDepth 100000 in
set_option maxHeartbeats 8000000 in
theorem sorts_mid (n : Nat) (h1 : 20 < n) (h2 : n < 40) : SortsAt n := by
  intro base g cap xs w hxs hO
  have HX := Lib.hid hxs
  clear hxs
  have F1 : ((20 : Int) ≤ (n : Int)) := by omega
  have F2 : ¬ ((40 : Int) ≤ (n : Int)) := by omega
  have F3 : ((20 : Int) < (n : Int)) := by omega
  have F4 : ¬ ((40 : Int) < (n : Int)) := by omega
  go_enter Try.func51, Try.ntmps51
  go_wp2_with fail
  refine wp_loop_rounds 2 ?_
  rw [rounds_succ]
  go_wp2_with fail
  have c1 := insertion base g cap xs 0 20 w (by rw [HX.out]; exact hO) (by omega) (by rw [HX.out]; omega) (by rw [HX.out]; omega)
  rw [HX.out] at c1
  refine Calls.mono c1 ?_
  clear c1
  rintro e w1 ⟨rfl, ys, hO1, hl1, hS1, hU1, hSrt1, hK1⟩
  rw [HX.out] at hO1 hl1
  go_wp2_with fail
  rw [rounds_succ]
  go_wp2_with fail
  have c2 := insertion base g cap ys 20 n w1 (by rw [hl1]; exact hO1) (by omega) (by rw [hl1]; omega) (by rw [hl1]; omega)
  rw [hl1] at c2
  refine Calls.mono c2 ?_
  clear c2
  rintro e w2 ⟨rfl, zs, hO2, hl2, hS2, hU2, hSrt2, hK2⟩
  rw [hl1] at hO2 hl2
  go_wp2_with fail
  refine wp_loop_rounds 2 ?_
  rw [rounds_succ]
  go_wp2_with fail
  refine wp_loop_rounds 1 ?_
  rw [rounds_succ]
  go_wp2_with fail
  have c3 := symMerge n base g cap zs 0 20 n w2 (by omega) (by rw [hl2]; exact hO2) (by omega) (by omega) (by rw [hl2]; omega) (by rw [hl2]; omega) (srt_keep hU2 hSrt1 (.inl (Nat.le_refl _))) hSrt2
  rw [hl2] at c3
  refine Calls.mono c3 ?_
  clear c3
  rintro e w3 ⟨rfl, us, hO3, hR3, hSrt3, hK3⟩
  rw [hl2] at hO3
  go_wp2_with fail
  rw [rounds_succ]
  go_wp2_with fail
  go_end0
  refine ⟨rfl, us, by rw [HX.out]; exact hO3, by rw [HX.out, hR3.len]; exact hl2, (hS1.trans hS2).trans hR3.stab, ?_, hSrt3, (hK1.trans hK2).trans hK3⟩
  intro p hp
  have hpn : n ≤ p := by omega
  rw [hR3.out p (.inr hpn), hU2 p (.inr hpn), hU1 p (.inr (by omega))]

set_option maxRecDepth 100000 in
set_option maxHeartbeats 8000000 in
theorem sorts_20 : SortsAt 20 := by
  intro base g cap xs w hxs hO
  have HX := Lib.hid hxs
  clear hxs
  go_enter Try.func51, Try.ntmps51
  go_wp2_with fail
  refine wp_loop_rounds 2 ?_
  rw [rounds_succ]
  go_wp2_with fail
  have c1 := insertion base g cap xs 0 20 w (by rw [HX.out]; exact hO) (by omega) (by rw [HX.out]; omega) (by rw [HX.out]; omega)
  rw [HX.out] at c1
  refine Calls.mono c1 ?_
  clear c1
  rintro e w1 ⟨rfl, ys, hO1, hl1, hS1, hU1, hSrt1, hK1⟩
  rw [HX.out] at hO1 hl1
  go_wp2_with fail
  rw [rounds_succ]
  go_wp2_with fail
  have c2 := insertion base g cap ys 20 20 w1 (by rw [hl1]; exact hO1) (by omega) (by rw [hl1]; omega) (by rw [hl1]; omega)
  rw [hl1] at c2
  refine Calls.mono c2 ?_
  clear c2
  rintro e w2 ⟨rfl, zs, hO2, hl2, hS2, hU2, hSrt2, hK2⟩
  rw [hl1] at hO2 hl2
  go_wp2_with fail
  refine wp_loop_rounds 1 ?_
  rw [rounds_succ]
  go_wp2_with fail
  go_end0
  refine ⟨rfl, zs, by rw [HX.out]; exact hO2, by rw [HX.out]; exact hl2, hS1.trans hS2, ?_, srt_keep hU2 hSrt1 (.inl (Nat.le_refl _)), hK1.trans hK2⟩
  intro p hp
  rw [hU2 p (by omega), hU1 p (by omega)]

set_option maxRecDepth 100000 in
set_option maxHeartbeats 8000000 in
theorem sorts_40 : SortsAt 40 := by
  intro base g cap xs w hxs hO
  have HX := Lib.hid hxs
  clear hxs
  go_enter Try.func51, Try.ntmps51
  go_wp2_with fail
  refine wp_loop_rounds 3 ?_
  rw [rounds_succ]
  go_wp2_with fail
  have c1 := insertion base g cap xs 0 20 w (by rw [HX.out]; exact hO) (by omega) (by rw [HX.out]; omega) (by rw [HX.out]; omega)
  rw [HX.out] at c1
  refine Calls.mono c1 ?_
  clear c1
  rintro e w1 ⟨rfl, ys, hO1, hl1, hS1, hU1, hSrt1, hK1⟩
  rw [HX.out] at hO1 hl1
  go_wp2_with fail
  rw [rounds_succ]
  go_wp2_with fail
  have c2 := insertion base g cap ys 20 40 w1 (by rw [hl1]; exact hO1) (by omega) (by rw [hl1]; omega) (by rw [hl1]; omega)
  rw [hl1] at c2
  refine Calls.mono c2 ?_
  clear c2
  rintro e w2 ⟨rfl, zs, hO2, hl2, hS2, hU2, hSrt2, hK2⟩
  rw [hl1] at hO2 hl2
  go_wp2_with fail
  rw [rounds_succ]
  go_wp2_with fail
  have c4 := insertion base g cap zs 40 40 w2 (by rw [hl2]; exact hO2) (by omega) (by rw [hl2]; omega) (by rw [hl2]; omega)
  rw [hl2] at c4
  refine Calls.mono c4 ?_
  clear c4
  rintro e w4 ⟨rfl, vs, hO4, hl4, hS4, hU4, hSrt4, hK4⟩
  rw [hl2] at hO4 hl4
  have hA : Srt vs 0 20 := srt_keep hU4 (srt_keep hU2 hSrt1 (.inl (Nat.le_refl _))) (.inl (by omega))
  have hB : Srt vs 20 40 := srt_keep hU4 hSrt2 (.inl (Nat.le_refl _))
  have HA := Lib.hid hA
  have HB := Lib.hid hB
  clear hA hB
  go_wp2_with fail
  refine wp_loop_rounds 2 ?_
  rw [rounds_succ]
  go_wp2_with fail
  refine wp_loop_rounds 2 ?_
  rw [rounds_succ]
  go_wp2_with fail
  have c3 := symMerge 40 base g cap vs 0 20 40 w4 (by omega) (by rw [hl4]; exact hO4) (by omega) (by omega) (by rw [hl4]; omega) (by rw [hl4]; omega) HA.out HB.out
  rw [hl4] at c3
  refine Calls.mono c3 ?_
  clear c3
  rintro e w3 ⟨rfl, us, hO3, hR3, hSrt3, hK3⟩
  rw [hl4] at hO3
  go_wp2_with fail
  rw [rounds_succ]
  go_wp2_with fail
  rw [rounds_succ]
  go_wp2_with fail
  go_end0
  refine ⟨rfl, us, by rw [HX.out]; exact hO3, by rw [HX.out, hR3.len]; exact hl4, ((hS1.trans hS2).trans hS4).trans hR3.stab, ?_, hSrt3, ((hK1.trans hK2).trans hK4).trans hK3⟩
  intro p hp
  rw [hR3.out p (by omega), hU4 p (by omega), hU2 p (by omega), hU1 p (by omega)]
theorem sorts (n : Nat) (h : n ≤ 40) : SortsAt n := by
  rcases Nat.lt_or_ge n 20 with h1 | h1
  · exact sorts_short n h1
  · rcases Nat.lt_or_ge 20 n with h2 | h2
    · rcases Nat.lt_or_ge n 40 with h3 | h3
      · exact sorts_mid n h2 h3
      · obtain rfl : n = 40 := by omega
        exact sorts_40
    · obtain rfl : n = 20 := by omega
      exact sorts_20
end Go.Proofs.Ytfipifjlmepooaa
