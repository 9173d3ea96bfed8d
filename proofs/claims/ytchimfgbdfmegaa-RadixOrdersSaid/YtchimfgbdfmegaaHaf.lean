/- The stable sort of lists of at most forty pairs. -/
import Derived.Test.YtchimfgbdfmegaaHae
import Derived.Test.YtchimfgbdfmegaaHad
import Derived.Deep.SlicePairs
import Derived.OpenShut
import Derived.ChangeOld
import Derived.BigQuiet
import Derived.Deep.QuietTactic
import Derived.Deep.RegionHeld3
namespace Go.Proofs.Ytchimfgbdfmegaa
open Go.RowKit Go.Lib
set_option linter.unusedVariables false
set_option maxRecDepth 100000
set_option linter.unusedSimpArgs false
theorem SortPost.re {base g cap a b : Nat} {xs : List Pr} {w : World} {e : Ending} {w' : World} (h : SortPost base g cap xs a b w e w') : e = .returned (.tuple #[]) ∧ ∃ ys, Own base w' (.slice (some ⟨g, 0, none⟩) xs.length cap) ys ∧ ys.length = xs.length ∧ Stab xs ys ∧ (∀ p, p < a ∨ b ≤ p → ys[p]? = xs[p]?) ∧ Srt ys a b ∧ Keep [g] w w' := h
theorem srt_keep {xs ys : List Pr} {a b c d : Nat} (hU : ∀ p, p < a ∨ b ≤ p → ys[p]? = xs[p]?) (hs : Srt xs c d) (hd : d ≤ a ∨ b ≤ c) : Srt ys c d := fun p q p1 p2 p3 => by
  have ep : kat ys p = kat xs p := by unfold kat; rw [pat_congr (hU p (by omega))]
  have eq : kat ys q = kat xs q := by unfold kat; rw [pat_congr (hU q (by omega))]
  rw [ep, eq]; exact hs p q p1 p2 p3

set_option maxRecDepth 100000 in
set_option maxHeartbeats 8000000 in
theorem sorts_mid (n : Nat) (h1 : 20 < n) (h2 : n < 40) : SortsAt n := by
  intro base g cap xs w hxs hO
  have HX := Lib.hid hxs
  clear hxs
  have F1 : ((20 : Int) ≤ (n : Int)) := by omega
  have F2 : ¬ ((40 : Int) ≤ (n : Int)) := by omega
  have F3 : ((20 : Int) < (n : Int)) := by omega
  have F4 : ¬ ((40 : Int) < (n : Int)) := by omega
  go_enter Try.func88, Try.ntmps88
  go_wp2_with fail
  refine wp_loop_rounds 2 ?_
  rw [rounds_succ]
  go_wp2_with fail
  have c1 := insertion base g cap xs 0 20 w (by rw [HX.out]; exact hO) (by omega) (by rw [HX.out]; omega) (by rw [HX.out]; omega)
  rw [HX.out] at c1
  refine Calls.mono c1 ?_
  clear c1
  rintro e w1 ⟨rfl, ys, hO1, hl1, hS1, hU1, hSrt1, hK1⟩
  rw [HX.out] at hO1 hl1
  go_wp2_with fail
  rw [rounds_succ]
  go_wp2_with fail
  have c2 := insertion base g cap ys 20 n w1 (by rw [hl1]; exact hO1) (by omega) (by rw [hl1]; omega) (by rw [hl1]; omega)
  rw [hl1] at c2
  refine Calls.mono c2 ?_
  clear c2
  rintro e w2 ⟨rfl, zs, hO2, hl2, hS2, hU2, hSrt2, hK2⟩
  rw [hl1] at hO2 hl2
  go_wp2_with fail
  refine wp_loop_rounds 2 ?_
  rw [rounds_succ]
  go_wp2_with fail
  refine wp_loop_rounds 1 ?_
  rw [rounds_succ]
  go_wp2_with fail
  have c3 := symMerge n base g cap zs 0 20 n w2 (by omega) (by rw [hl2]; exact hO2) (by omega) (by omega) (by rw [hl2]; omega) (by rw [hl2]; omega) (srt_keep hU2 hSrt1 (.inl (Nat.le_refl _))) hSrt2
  rw [hl2] at c3
  refine Calls.mono c3 ?_
  clear c3
  rintro e w3 ⟨rfl, us, hO3, hR3, hSrt3, hK3⟩
  rw [hl2] at hO3
  go_wp2_with fail
  rw [rounds_succ]
  go_wp2_with fail
  go_end0
  refine ⟨rfl, us, by rw [HX.out]; exact hO3, by rw [HX.out, hR3.len]; exact hl2, (hS1.trans hS2).trans hR3.stab, ?_, hSrt3, (hK1.trans hK2).trans hK3⟩
  intro p hp
  have hpn : n ≤ p := by omega
  rw [hR3.out p (.inr hpn), hU2 p (.inr hpn), hU1 p (.inr (by omega))]

set_option maxRecDepth 100000 in
set_option maxHeartbeats 8000000 in
theorem sorts_20 : SortsAt 20 := by
  intro base g cap xs w hxs hO
  have HX := Lib.hid hxs
  clear hxs
  go_enter Try.func88, Try.ntmps88
  go_wp2_with fail
  refine wp_loop_rounds 2 ?_
  rw [rounds_succ]
  go_wp2_with fail
  have c1 := insertion base g cap xs 0 20 w (by rw [HX.out]; exact hO) (by omega) (by rw [HX.out]; omega) (by rw [HX.out]; omega)
  rw [HX.out] at c1
  refine Calls.mono c1 ?_
  clear c1
  rintro e w1 ⟨rfl, ys, hO1, hl1, hS1, hU1, hSrt1, hK1⟩
  rw [HX.out] at hO1 hl1
  go_wp2_with fail
  rw [rounds_succ]
  go_wp2_with fail
  have c2 := insertion base g cap ys 20 20 w1 (by rw [hl1]; exact hO1) (by omega) (by rw [hl1]; omega) (by rw [hl1]; omega)
  rw [hl1] at c2
  refine Calls.mono c2 ?_
  clear c2
  rintro e w2 ⟨rfl, zs, hO2, hl2, hS2, hU2, hSrt2, hK2⟩
  rw [hl1] at hO2 hl2
  go_wp2_with fail
  refine wp_loop_rounds 1 ?_
  rw [rounds_succ]
  go_wp2_with fail
  go_end0
  refine ⟨rfl, zs, by rw [HX.out]; exact hO2, by rw [HX.out]; exact hl2, hS1.trans hS2, ?_, srt_keep hU2 hSrt1 (.inl (Nat.le_refl _)), hK1.trans hK2⟩
  intro p hp
  rw [hU2 p (by omega), hU1 p (by omega)]

set_option maxRecDepth 100000 in
set_option maxHeartbeats 8000000 in
theorem sorts_40 : SortsAt 40 := by
  intro base g cap xs w hxs hO
  have HX := Lib.hid hxs
  clear hxs
  go_enter Try.func88, Try.ntmps88
  go_wp2_with fail
  refine wp_loop_rounds 3 ?_
  rw [rounds_succ]
  go_wp2_with fail
  have c1 := insertion base g cap xs 0 20 w (by rw [HX.out]; exact hO) (by omega) (by rw [HX.out]; omega) (by rw [HX.out]; omega)
  rw [HX.out] at c1
  refine Calls.mono c1 ?_
  clear c1
  rintro e w1 ⟨rfl, ys, hO1, hl1, hS1, hU1, hSrt1, hK1⟩
  rw [HX.out] at hO1 hl1
  go_wp2_with fail
  rw [rounds_succ]
  go_wp2_with fail
  have c2 := insertion base g cap ys 20 40 w1 (by rw [hl1]; exact hO1) (by omega) (by rw [hl1]; omega) (by rw [hl1]; omega)
  rw [hl1] at c2
  refine Calls.mono c2 ?_
  clear c2
  rintro e w2 ⟨rfl, zs, hO2, hl2, hS2, hU2, hSrt2, hK2⟩
  rw [hl1] at hO2 hl2
  go_wp2_with fail
  rw [rounds_succ]
  go_wp2_with fail
  have c4 := insertion base g cap zs 40 40 w2 (by rw [hl2]; exact hO2) (by omega) (by rw [hl2]; omega) (by rw [hl2]; omega)
  rw [hl2] at c4
  refine Calls.mono c4 ?_
  clear c4
  rintro e w4 ⟨rfl, vs, hO4, hl4, hS4, hU4, hSrt4, hK4⟩
  rw [hl2] at hO4 hl4
  have hA : Srt vs 0 20 := srt_keep hU4 (srt_keep hU2 hSrt1 (.inl (Nat.le_refl _))) (.inl (by omega))
  have hB : Srt vs 20 40 := srt_keep hU4 hSrt2 (.inl (Nat.le_refl _))
  have HA := Lib.hid hA
  have HB := Lib.hid hB
  clear hA hB
  go_wp2_with fail
  refine wp_loop_rounds 2 ?_
  rw [rounds_succ]
  go_wp2_with fail
  refine wp_loop_rounds 2 ?_
  rw [rounds_succ]
  go_wp2_with fail
  have c3 := symMerge 40 base g cap vs 0 20 40 w4 (by omega) (by rw [hl4]; exact hO4) (by omega) (by omega) (by rw [hl4]; omega) (by rw [hl4]; omega) HA.out HB.out
  rw [hl4] at c3
  refine Calls.mono c3 ?_
  clear c3
  rintro e w3 ⟨rfl, us, hO3, hR3, hSrt3, hK3⟩
  rw [hl4] at hO3
  go_wp2_with fail
  rw [rounds_succ]
  go_wp2_with fail
  rw [rounds_succ]
  go_wp2_with fail
  go_end0
  refine ⟨rfl, us, by rw [HX.out]; exact hO3, by rw [HX.out, hR3.len]; exact hl4, ((hS1.trans hS2).trans hS4).trans hR3.stab, ?_, hSrt3, ((hK1.trans hK2).trans hK4).trans hK3⟩
  intro p hp
  rw [hR3.out p (by omega), hU4 p (by omega), hU2 p (by omega), hU1 p (by omega)]
theorem sorts (n : Nat) (h : n ≤ 40) : SortsAt n := by
  rcases Nat.lt_or_ge n 20 with h1 | h1
  · exact sorts_short n h1
  · rcases Nat.lt_or_ge 20 n with h2 | h2
    · rcases Nat.lt_or_ge n 40 with h3 | h3
      · exact sorts_mid n h2 h3
      · obtain rfl : n = 40 := by omega
        exact sorts_40
    · obtain rfl : n = 20 := by omega
      exact sorts_20
end Go.Proofs.Ytchimfgbdfmegaa
/- Opening a list of pairs that was handed in. -/
namespace Go.Proofs.Ytchimfgbdfmegaa
open Go.ChangeShapes Go.WideShapes Go.RowKit Go.Lib Go.Deep
set_option linter.unusedVariables false
set_option maxRecDepth 100000
set_option linter.unusedSimpArgs false
def strV : Value → ByteArray
  | .string s => s
  | _ => ByteArray.empty
theorem flat_map (n : Nat) (f : Nat → Pr) (j : Nat) (u : Value) (h : (flat ((List.range n).map f))[j]? = some u) : j / 2 < n ∧ ((j % 2 = 0 ∧ u = .string (f (j / 2)).1) ∨ (j % 2 = 1 ∧ u = .string (f (j / 2)).2)) := by
  have hl := (List.getElem?_eq_some_iff.1 h).1
  rw [flat_length, List.length_map, List.length_range] at hl
  have hp : ((List.range n).map f)[j / 2]? = some (f (j / 2)) := by rw [List.getElem?_map, List.getElem?_range (by omega)]; rfl
  have hf := flat_get _ _ _ hp
  refine ⟨by omega, ?_⟩
  rcases Nat.mod_two_eq_zero_or_one j with hm | hm
  · refine .inl ⟨hm, ?_⟩
    have ej : j / 2 * 2 = j := by omega
    rw [ej, h] at hf
    exact Option.some.inj hf.1
  · refine .inr ⟨hm, ?_⟩
    have ej : j / 2 * 2 + 1 = j := by omega
    rw [ej, h] at hf
    exact Option.some.inj hf.2
theorem fields33 : ∃ f0 f1, Try.prog.underlying 34 = some (.struct #[f0, f1]) ∧ f0.offset = 0 ∧ f1.offset = 1 ∧ f0.type = 9 ∧ f1.type = 9 := ⟨_, _, Try.underlying34, rfl, rfl, rfl, rfl⟩
theorem open_pairs {H : Type} {enc : TypeId × Value → H} {W : World} {base : Nat} {spare : Nat → Bool} {held : Bool} {a : Option Addr} {len cap : Nat} {d : DataW H} {p : List MemPlace}
    (h : DataW.Trod enc Try.prog W base spare held 64 (.slice a len cap) d p) : ∃ ps, ArgP W a len cap ps := by
  obtain ⟨fuel, hf⟩ := h
  obtain ⟨f0, f1, hu, o0, o1, t0, t1⟩ := fields33
  rcases open_slice_pairs Try.underlying64 hu (by kernel_rfl) o0 o1 (by rw [t0]; kernel_rfl) (by rw [t1]; kernel_rfl) hf with ⟨hcs, _⟩ | ⟨x, l, c, m, n, V0, V1, D0, D1, P0, P1, hcs, _, hl, hm, hmm, _, hc⟩
  · simp [Value.cells] at hcs
    obtain ⟨rfl, rfl, rfl⟩ := hcs
    exact ⟨[], .inl ⟨rfl, rfl, rfl, rfl⟩⟩
  · simp [Value.cells] at hcs
    obtain ⟨rfl, rfl, rfl⟩ := hcs
    have hlm : len ≤ m := by rw [hmm]; split <;> omega
    refine ⟨(List.range len).map fun i => (strV (V0 i), strV (V1 i)), .inr ⟨x, rfl, by simp, hl, hm, fun j u hj => ?_⟩⟩
    obtain ⟨hlt, hu'⟩ := flat_map len _ j u hj
    obtain ⟨e0, e1, g0, g1⟩ := hc (j / 2) (by omega)
    rw [t0] at g0
    rw [t1] at g1
    obtain ⟨s0, hs0, _⟩ := DataW.trod_string Try.underlying9 g0
    obtain ⟨s1, hs1, _⟩ := DataW.trod_string Try.underlying9 g1
    simp at hs0 hs1
    rcases hu' with ⟨hm2, rfl⟩ | ⟨hm2, rfl⟩
    · have ej : j / 2 * 2 = j := by omega
      rw [ej] at e0
      rw [e0, hs0]; rfl
    · have ej : j / 2 * 2 + 1 = j := by omega
      rw [ej] at e1
      rw [e1, hs1]; rfl
/-- a row of one's own, handed on -/
theorem Own.arg {base g cap : Nat} {w : World} {xs : List Pr} (h : Own base w (.slice (some ⟨g, 0, none⟩) xs.length cap) xs) : ArgP w (some ⟨g, 0, none⟩) xs.length cap xs := by
  obtain ⟨A, c, hv, hRd, _⟩ := h.rd
  simp at hv
  obtain ⟨rfl, rfl⟩ := hv
  have h' : w.ownsRow base 34 2 (.slice (some ⟨g, 0, none⟩) xs.length cap) xs.length (flat xs) := h
  rcases h'.2 with ⟨h1, _⟩ | ⟨g', cap', cur, h1, _, _, hc, hm, _⟩
  · cases h1
  · simp at h1
    obtain ⟨rfl, rfl⟩ := h1
    exact .inr ⟨_, rfl, rfl, hc, hm, hRd.cells⟩
end Go.Proofs.Ytchimfgbdfmegaa
/- Sorted of package pair at every list of at most forty pairs, also at a nil one. -/
namespace Go.Proofs.Ytchimfgbdfmegaa
open Go.ChangeShapes Go.WideShapes Go.RowKit Go.Lib Go.Deep
set_option linter.unusedVariables false
set_option maxRecDepth 100000
set_option linter.unusedSimpArgs false
theorem insertion_nil (w : World) : Calls Try.prog 104 #[.slice none 0 0, .int .i64 0, .int .i64 0, fn43] w fun e w' => e = .returned (.tuple #[]) ∧ w' = w := by
  unfold fn43
  go_enter Try.func104, Try.ntmps104
  go_wp2_with fail
  refine wp_loop_rounds 1 ?_
  rw [rounds_succ]
  go_wp2_with fail
  go_end0
  exact ⟨rfl, rfl⟩
theorem stable_nil (w : World) : Calls Try.prog 88 #[.slice none 0 0, .int .i64 0, fn43] w fun e w' => e = .returned (.tuple #[]) ∧ w' = w := by
  unfold fn43
  go_enter Try.func88, Try.ntmps88
  go_wp2_with fail
  refine wp_loop_rounds 1 ?_
  rw [rounds_succ]
  go_wp2_with fail
  refine (insertion_nil w).mono ?_
  rintro e w1 ⟨rfl, rfl⟩
  go_wp2_with fail
  refine wp_loop_rounds 1 ?_
  rw [rounds_succ]
  go_wp2_with fail
  go_end0
  exact ⟨rfl, rfl⟩
theorem sortStable_nil (w : World) : Calls Try.prog 59 #[.slice none 0 0, fn43] w fun e w' => e = .returned (.tuple #[]) ∧ w' = w := by
  unfold fn43
  go_enter Try.func59, Try.ntmps59
  go_wp2_with fail
  refine (stable_nil w).mono ?_
  rintro e w1 ⟨rfl, rfl⟩
  go_wp2_with fail
  go_end0
  exact ⟨rfl, rfl⟩
theorem clone_nil (w : World) : Calls Try.prog 58 #[.slice none 0 0] w fun e w' => e = .returned (.slice none 0 0) ∧ w' = w := by
  have hnl := fun w => run_eql_slice_nil (P := Try.prog) w 64 34 none 0 0 0 0 Try.underlying64
  go_enter Try.func58, Try.ntmps58
  go_wp2_with fail
  go_ret
  exact ⟨rfl, rfl⟩
theorem sorted_nil (w : World) : Calls Try.prog 29 #[.slice none 0 0] w fun e w' => e = .returned (.slice none 0 0) ∧ w' = w := by
  go_enter Try.func29, Try.ntmps29
  go_wp2_with fail
  refine (clone_nil w).mono ?_
  rintro e w1 ⟨rfl, rfl⟩
  go_wp2_with fail
  refine (sortStable_nil w1).mono ?_
  rintro e w2 ⟨rfl, rfl⟩
  go_wp2_with fail
  refine wp_loop_rounds 1 ?_
  rw [rounds_succ]
  go_wp2_with fail
  go_ret
  exact ⟨rfl, rfl⟩
/-- where a list of one's own begins -/
def At (A : Option Addr) (c : Nat) : Prop := (A = none ∧ c = 0) ∨ ∃ g, A = some ⟨g, 0, none⟩
theorem Own.lie {base : Nat} {w : World} {v : Value} {xs : List Pr} (h : Own base w v xs) : ∃ A c, v = .slice A xs.length c ∧ Rd w A xs ∧ At A c ∧ (A = none → xs = []) := by
  rcases h.2 with ⟨h1, h0⟩ | ⟨g, cap, cur, rfl, hg, _⟩
  · exact ⟨none, 0, by rw [h1, h0], fun j p hj => by rw [List.length_eq_zero_iff.1 h0] at hj; simp at hj, .inl ⟨rfl, rfl⟩, fun _ => List.length_eq_zero_iff.1 h0⟩
  · refine ⟨_, cap, rfl, fun j p hj => ⟨g, 0, rfl, ?_⟩, .inr ⟨g, rfl⟩, fun h => by cases h⟩
    have hf := flat_get xs j p hj
    obtain ⟨hl, _⟩ := List.getElem?_eq_some_iff.1 hj
    have h' : w.ownsRow base 34 2 (.slice (some ⟨g, 0, none⟩) xs.length cap) xs.length (flat xs) := h
    rw [Nat.zero_add, h'.cellAt (j * 2) (by omega), h'.cellAt (j * 2 + 1) (by omega)]
    exact hf
theorem sorted_any (A : Option Addr) (c : Nat) (xs : List Pr) (w : World) (hR : Rd w A xs) (hA : At A c) (hn : xs.length ≤ 40) (h0 : A = none → xs = []) :
    Calls Try.prog 29 #[.slice A xs.length c] w fun e w' => ∃ v R, e = .returned v ∧ Own w.heap.size w' v R ∧ IsNorm xs R ∧ Below w.heap.size w w' := by
  rcases hA with ⟨rfl, rfl⟩ | ⟨g, rfl⟩
  · obtain rfl := h0 rfl
    refine (sorted_nil w).mono ?_
    rintro e w' ⟨rfl, rfl⟩
    exact ⟨_, [], rfl, World.ownsRow_nil _ _ _ _, norm_nil, Below.refl _ _⟩
  · exact sorted_of xs.length (sorts _ hn) g 0 c xs w hR rfl (by omega)
/-- the pairs of a list that was handed in, with the size of each key -/
theorem open_pairs_sized {H : Type} {enc : TypeId × Value → H} {W : World} {base : Nat} {spare : Nat → Bool} {held : Bool} {a : Option Addr} {len cap : Nat} {d : DataW H} {p : List MemPlace}
    (h : DataW.Trod enc Try.prog W base spare held 64 (.slice a len cap) d p) : ∃ ps, ArgP W a len cap ps ∧ Sized ps := by
  obtain ⟨fuel, hf⟩ := h
  obtain ⟨f0, f1, hu, o0, o1, t0, t1⟩ := fields33
  rcases open_slice_pairs Try.underlying64 hu (by kernel_rfl) o0 o1 (by rw [t0]; kernel_rfl) (by rw [t1]; kernel_rfl) hf with ⟨hcs, _⟩ | ⟨x, l, c, m, n, V0, V1, D0, D1, P0, P1, hcs, _, hl, hm, hmm, _, hc⟩
  · simp [Value.cells] at hcs
    obtain ⟨rfl, rfl, rfl⟩ := hcs
    exact ⟨[], .inl ⟨rfl, rfl, rfl, rfl⟩, sized_mem (by simp)⟩
  · simp [Value.cells] at hcs
    obtain ⟨rfl, rfl, rfl⟩ := hcs
    have hlm : len ≤ m := by rw [hmm]; split <;> omega
    refine ⟨(List.range len).map fun i => (strV (V0 i), strV (V1 i)), .inr ⟨x, rfl, by simp, hl, hm, fun j u hj => ?_⟩, sized_mem fun y hy => ?_⟩
    · obtain ⟨hlt, hu'⟩ := flat_map len _ j u hj
      obtain ⟨e0, e1, g0, g1⟩ := hc (j / 2) (by omega)
      rw [t0] at g0
      rw [t1] at g1
      obtain ⟨s0, hs0, _⟩ := DataW.trod_string Try.underlying9 g0
      obtain ⟨s1, hs1, _⟩ := DataW.trod_string Try.underlying9 g1
      simp at hs0 hs1
      rcases hu' with ⟨hm2, rfl⟩ | ⟨hm2, rfl⟩
      · have ej : j / 2 * 2 = j := by omega
        rw [ej] at e0
        rw [e0, hs0]; rfl
      · have ej : j / 2 * 2 + 1 = j := by omega
        rw [ej] at e1
        rw [e1, hs1]; rfl
    · obtain ⟨i, hi, rfl⟩ := List.mem_map.1 hy
      obtain ⟨e0, e1, g0, g1⟩ := hc i (by have := List.mem_range.1 hi; omega)
      rw [t0] at g0
      obtain ⟨s0, hs0, _, hz⟩ := DataW.trod_string Try.underlying9 g0
      simp at hs0
      rw [hs0]
      exact hz
theorem sized_take {xs : List Pr} (h : Sized xs) (k : Nat) : Sized (xs.take k) := sized_mem fun x hx => mem_sized h x (List.mem_of_mem_take hx)
theorem below_of_drew (w : World) (n : Nat) : Below w.heap.size w (w.drewN n) := ⟨rfl, rfl, rfl, Nat.le_refl _, fun _ _ => rfl⟩
theorem calls_below {f : FuncId} {args : Array Value} {w : World} {v : Value} (h : Calls Try.prog f args w fun e w' => e = .returned v ∧ ∃ n, w' = w.drewN n) : Calls Try.prog f args w fun e w' => e = .returned v ∧ Below w.heap.size w w' := by
  refine h.mono ?_
  rintro e w' ⟨rfl, n, rfl⟩
  exact ⟨rfl, below_of_drew w n⟩
theorem norm_sub {xs R : List Pr} (h : IsNorm xs R) : ∀ p ∈ R, p ∈ xs := fun p hp => by
  have := List.mem_of_getLast? ((h.mem p).1 hp)
  exact (List.mem_filter.1 this).1
theorem norm_self {R : List Pr} (h : RisesL R) : IsNorm R R := by
  refine ⟨h, fun p => ?_⟩
  have huniq : ∀ q ∈ R, ∀ r ∈ R, q.1 = r.1 → q = r := by
    clear p
    induction R with
    | nil => simp
    | cons x r ih =>
      have h' := List.pairwise_cons.1 h
      intro q hq s hs e
      rcases List.mem_cons.1 hq with e1 | hq <;> rcases List.mem_cons.1 hs with e2 | hs
      · rw [e1, e2]
      · rw [e1] at e; exact absurd e (h'.1 s hs).ne
      · rw [e2] at e; exact absurd e.symm (h'.1 q hq).ne
      · exact ih h'.2 q hq s hs e
  constructor
  · intro hp
    have hm : p ∈ withKey R p.1 := List.mem_filter.2 ⟨hp, by simp⟩
    have hne : withKey R p.1 ≠ [] := List.ne_nil_of_mem hm
    rw [List.getLast?_eq_some_getLast hne]
    have hl := List.mem_filter.1 (List.getLast_mem hne)
    congr 1
    exact huniq _ hl.1 p hp (by simpa using hl.2)
  · intro hl
    exact (List.mem_filter.1 (List.mem_of_getLast? hl)).1
theorem sub_length : ∀ (R xs : List Pr), R.Pairwise (fun p q => p ≠ q) → (∀ p ∈ R, p ∈ xs) → R.length ≤ xs.length
  | [], xs, _, _ => by simp
  | x :: r, xs, h, hs => by
    have h' := List.pairwise_cons.1 h
    have hx := hs x (by simp)
    obtain ⟨s, t, rfl⟩ := List.append_of_mem hx
    have hr := sub_length r (s ++ t) h'.2 (fun p hp => by
      rcases List.mem_append.1 (hs p (List.mem_cons_of_mem _ hp)) with h1 | h1
      · exact List.mem_append.2 (.inl h1)
      · rcases List.mem_cons.1 h1 with h2 | h2
        · exact absurd h2.symm (h'.1 p hp)
        · exact List.mem_append.2 (.inr h2))
    simp only [List.length_cons, List.length_append] at *
    omega
theorem norm_length {xs R : List Pr} (h : IsNorm xs R) : R.length ≤ xs.length :=
  sub_length R xs (h.rises.imp (fun hpq e => by subst e; exact hpq.ne rfl)) (norm_sub h)
end Go.Proofs.Ytchimfgbdfmegaa
/- Where a key stands in a rising list: the binary search of package slices, Find of package pair, Find of the reference. -/
namespace Go.Proofs.Ytchimfgbdfmegaa
open Go.RowKit Go.Lib
set_option linter.unusedVariables false
set_option maxRecDepth 100000
set_option linter.unusedSimpArgs false
/-- how many keys stand ahead of a key -/
def posK : List Pr → ByteArray → Nat
  | [], _ => 0
  | q :: r, k => if ltB q.1 k = true then posK r k + 1 else 0
/-- whether it is there -/
def isK (xs : List Pr) (k : ByteArray) : Bool := decide (posK xs k < xs.length ∧ (pat xs (posK xs k)).1 = k)
theorem posK_le (xs : List Pr) (k : ByteArray) : posK xs k ≤ xs.length := by
  induction xs with
  | nil => simp [posK]
  | cons q r ih => unfold posK; split <;> simp; exact ih
theorem pat_succ (q : Pr) (r : List Pr) (j : Nat) : pat (q :: r) (j + 1) = pat r j := by simp [pat]
theorem pat_zero (q : Pr) (r : List Pr) : pat (q :: r) 0 = q := by simp [pat]
theorem posK_lt (xs : List Pr) (k : ByteArray) (j : Nat) (h : j < posK xs k) : Lt (pat xs j).1 k := by
  induction xs generalizing j with
  | nil => simp [posK] at h
  | cons q r ih =>
    unfold posK at h
    split at h
    · rename_i hq
      cases j with
      | zero => rw [pat_zero]; exact (ltB_iff _ _).1 hq
      | succ j => rw [pat_succ]; exact ih j (by omega)
    · omega
theorem posK_not (xs : List Pr) (k : ByteArray) (h : posK xs k < xs.length) : ¬ Lt (pat xs (posK xs k)).1 k := by
  induction xs with
  | nil => simp at h
  | cons q r ih =>
    unfold posK at h ⊢
    split at h
    · rename_i hq
      rw [if_pos hq, pat_succ]
      exact ih (by simpa using h)
    · rename_i hq
      rw [if_neg hq, pat_zero]
      exact fun hl => hq ((ltB_iff _ _).2 hl)
theorem rises_at {xs : List Pr} (h : RisesL xs) {i j : Nat} (hij : i < j) (hj : j < xs.length) : Lt (pat xs i).1 (pat xs j).1 := by
  have := (List.pairwise_iff_getElem.1 h) i j (by omega) hj hij
  simpa [pat, hj, (by omega : i < xs.length)] using this
theorem posK_ge {xs : List Pr} (hr : RisesL xs) (k : ByteArray) (j : Nat) (h : posK xs k ≤ j) (hj : j < xs.length) : ¬ Lt (pat xs j).1 k := by
  rcases Nat.lt_or_eq_of_le h with h | h
  · exact fun hl => posK_not xs k (by omega) ((rises_at hr h hj).trans hl)
  · subst h; exact posK_not xs k hj
theorem isK_eq (xs : List Pr) (k : ByteArray) (h : posK xs k < xs.length) : isK xs k = (cmpS (pat xs (posK xs k)).1 k == 0) := by
  unfold isK
  by_cases e : (pat xs (posK xs k)).1 = k
  · rw [(cmpS_zero _ _).2 e]; simp [h, e]
  · have : cmpS (pat xs (posK xs k)).1 k ≠ 0 := fun h0 => e ((cmpS_zero _ _).1 h0)
    simp [e, this]
theorem isK_bytes (xs : List Pr) (k : ByteArray) (h : posK xs k < xs.length) : isK xs k = ((pat xs (posK xs k)).1.toList == k.toList) := by
  unfold isK
  by_cases e : (pat xs (posK xs k)).1 = k
  · simp [h, e]
  · have : (pat xs (posK xs k)).1.toList ≠ k.toList := fun h0 => e (bytes_ext (by rw [ByteArray.toList_eq, ByteArray.toList_eq] at h0; exact h0))
    simp [e, this]
theorem isK_end (xs : List Pr) (k : ByteArray) (h : ¬ posK xs k < xs.length) : isK xs k = false := by unfold isK; simp [h]
/-- the function that Find compares by, as a value -/
def fn48 : Value := .func (.func 63) #[] #[]

set_option maxRecDepth 100000 in
set_option maxHeartbeats 8000000 in
theorem bsearch (A : Option Addr) (c : Nat) (xs : List Pr) (k : ByteArray) (w : World) (hR : Rd w A xs) (hn : xs.length ≤ 1000) (hr : RisesL xs) :
    Calls Try.prog 62 #[.slice A xs.length c, .string k, fn48] w fun e w' => e = .returned (.tuple #[.int .i64 (posK xs k), .bool (isK xs k)]) ∧ Below w.heap.size w w' := by
  obtain ⟨N, hN⟩ : ∃ N, N = xs.length := ⟨_, rfl⟩
  obtain ⟨P, hP⟩ : ∃ P, P = posK xs k := ⟨_, rfl⟩
  have hPN : P ≤ N := by rw [hP, hN]; exact posK_le _ _
  rw [← hN] at hn ⊢
  rw [← hP]
  have HN := Lib.hid hN
  have HP := Lib.hid hP
  have HR := Lib.hid hR
  have HS := Lib.hid hr
  clear hN hP hR hr
  unfold fn48
  go_enter Try.func62, Try.ntmps62
  go_wp2_with fail
  go_loopw [9, 10] (fun vi vj wr => ∃ (i j : Nat), vi = .int .i64 i ∧ vj = .int .i64 j ∧ i ≤ P ∧ P ≤ j ∧ j ≤ N ∧ Below w.heap.size w wr) (fun vi vj wr => (intOf vj).toNat - (intOf vi).toNat)
  case atStart => exact ⟨0, N, rfl, rfl, Nat.zero_le _, hPN, Nat.le_refl _, Below.refl _ _⟩
  case round =>
    obtain ⟨i, j, rfl, rfl, hi, hij, hj, hB⟩ := hrel
    have hRd := HR.out.below hB
    by_cases hlt : i < j
    · obtain ⟨h, hh⟩ : ∃ h, h = (i + j) / 2 := ⟨_, rfl⟩
      have B1 : i ≤ h ∧ h < j := by omega
      have E1 : IntKind.i64.wrap ((i : Int) + (j : Int)) = (i : Int) + (j : Int) := IntWalk.i64_in _ (by omega)
      have E2 : ((i : Int) + (j : Int)) / 2 = (h : Int) := by omega
      have E3 : IntKind.i64.wrap ((h : Int) + 1) = ((h + 1 : Nat) : Int) := by rw [IntWalk.i64_in _ (by omega)]; omega
      clear hh
      obtain ⟨g, off, rfl, c0, c1⟩ := hRd.at h (by have := HN.out; omega)
      have B2 : (h : Int) < (N : Int) := by omega
      clear hRd
      go_wp2_with fail
      refine (cmp48 (pat xs h) k _).mono ?_
      rintro e w1 ⟨rfl, hb1⟩
      have hB1 := hB.trans (hb1.mono hB.size)
      clear hb1 hB c0 c1
      by_cases hcmp : cmpS (pat xs h).1 k < 0
      · have S : h + 1 ≤ P := by
          rcases Nat.lt_or_ge h P with q | q
          · exact q
          · exact absurd hcmp (posK_ge HS.out k h (by rw [← HP.out]; exact q) (by rw [← HN.out]; omega))
        go_wp2_with fail
        refine ⟨⟨h + 1, j, by go_num, rfl, S, hij, hj, hB1⟩, ?_⟩
        simp [intOf]; omega
      · have S : P ≤ h := by
          rcases Nat.lt_or_ge h P with q | q
          · exact absurd (posK_lt xs k h (by rw [← HP.out]; exact q)) hcmp
          · exact q
        have hge : 0 ≤ cmpS (pat xs h).1 k := by omega
        go_wp2_with fail
        refine ⟨⟨i, h, rfl, rfl, hi, S, by omega, hB1⟩, ?_⟩
        simp [intOf]; omega
    · obtain rfl : i = P := by omega
      by_cases hend : i < N
      · obtain ⟨g, off, rfl, c0, c1⟩ := hRd.at i (by have := HN.out; omega)
        have B2 : (i : Int) < (N : Int) := by omega
        clear hRd
        have HI := Lib.hid (isK_eq xs k (by rw [← HP.out, ← HN.out]; exact hend))
        go_wp2_with fail
        refine (cmp48 (pat xs i) k _).mono ?_
        rintro e w1 ⟨rfl, hb1⟩
        have hB1 := hB.trans (hb1.mono hB.size)
        clear hb1 hB c0 c1
        go_wp2_with fail
        go_ret2
        have e1 := HI.out
        rw [← HP.out] at e1
        rw [e1]
        exact ⟨rfl, hB1⟩
      · have HI := Lib.hid (isK_end xs k (by rw [← HP.out, ← HN.out]; exact hend))
        have B2 : ¬ ((i : Int) < (N : Int)) := by omega
        go_wp2_with fail
        go_ret2
        rw [HI.out]
        exact ⟨rfl, hB⟩
set_option maxRecDepth 100000 in
set_option maxHeartbeats 2000000 in
theorem find_any (A : Option Addr) (c : Nat) (xs : List Pr) (k : ByteArray) (w : World) (hR : Rd w A xs) (hn : xs.length ≤ 1000) (hr : RisesL xs) :
    Calls Try.prog 30 #[.slice A xs.length c, .string k] w fun e w' => e = .returned (.tuple #[.int .i64 (posK xs k), .bool (isK xs k)]) ∧ Below w.heap.size w w' := by
  have hb := bsearch A c xs k w hR hn hr
  unfold fn48 at hb
  go_enter Try.func30, Try.ntmps30
  go_wp2_with fail
  refine hb.mono ?_
  rintro e w1 ⟨rfl, hB⟩
  go_wp2_with fail
  go_ret2
  exact ⟨rfl, hB⟩
end Go.Proofs.Ytchimfgbdfmegaa
/- first, compare, place: where the child of a byte is. -/
namespace Go.Proofs.Ytchimfgbdfmegaa
open Go.RowKit Go.Lib
set_option linter.unusedVariables false
set_option linter.unusedSimpArgs false
set_option maxRecDepth 100000
/-- the cells of a node -/
theorem Nod.cells {base : Nat} {w : World} {b : Nat} {t : RX} {kv : Value} {bs : List Nat} (h : Nod base w b t kv bs) : ∃ (o : Value) (lab val : ByteArray) (sh : Bool), lab.data.toList = t.lab ∧ val = t.val.getD ByteArray.empty ∧ Blk w b 101 #[o, .string lab, .string val, .bool t.val.isSome, kv, .bool sh] ∧
    (w.cell? ⟨b, 0, none⟩ = some o ∧ w.cell? ⟨b, 1, none⟩ = some (.string lab) ∧ w.cell? ⟨b, 2, none⟩ = some (.string val) ∧ w.cell? ⟨b, 3, none⟩ = some (.bool t.val.isSome) ∧ w.cell? ⟨b, 4, none⟩ = some kv ∧ w.cell? ⟨b, 5, none⟩ = some (.bool sh)) := by
  obtain ⟨o, lab, val, sh, hB, h1, h2⟩ := h.blk
  exact ⟨o, lab, val, sh, h1, h2, hB, hB.cell 0, hB.cell 1, hB.cell 2, hB.cell 3, hB.cell 4, hB.cell 5⟩
/-- the first byte as the program counts it -/
theorem first_any (P : Nat → Prop) (b : Nat) (t : RX) (w : World) (h : RadW P w b t) (hs : t.lab.length ≤ 1000) : Calls Try.prog 85 #[at0 b] w fun e w' => e = .returned (.int .i64 ((fst? t : Int) - 1)) ∧ w = w' := by
  cases h with
  | mk h1 =>
    obtain ⟨o, lab, val, sh, e1, e2, hB, c0, c1, c2, c3, c4, c5⟩ := h1.cells
    clear h1 hB
    unfold at0
    have hL : lab.size = t.lab.length := by rw [← e1, Array.length_toList]; rfl
    by_cases h0 : t.lab = []
    · have hz : lab = ByteArray.empty := bytes_ext (by rw [e1, h0]; rfl)
      have hf : fst? t = 0 := by unfold fst?; rw [h0]
      subst hz
      rw [hf]
      go_enter Try.func85, Try.ntmps85
      go_wp2_with fail
      go_ret
      exact ⟨rfl, rfl⟩
    · obtain ⟨a, r, hl⟩ := List.exists_cons_of_ne_nil h0
      have hz : (lab.toList == ([] : List UInt8)) = false := by
        have : lab.toList ≠ [] := fun e => h0 (by rw [← e1, ← ByteArray.toList_eq, e])
        simpa using this
      have hf : (fst? t : Int) - 1 = a.toNat := by rw [fst_cons hl]; omega
      have hpos : (0 : Int) < (lab.size : Int) := by rw [hL, hl]; simp only [List.length_cons]; omega
      have hget : lab[0]'(by omega) = a := by
        have : lab.data.toList[0]? = some a := by rw [e1, hl]; rfl
        rw [List.getElem?_eq_some_iff] at this
        exact this.2
      rw [hf]
      clear hf
      go_enter Try.func85, Try.ntmps85
      go_wp2_with fail
      go_ret
      refine ⟨?_, rfl⟩
      show Ending.returned (.int .i64 (wrap64 (a.toNat : Int))) = _
      have ha := a.toNat_lt
      rw [IntWalk.wrap64_in _ ⟨by omega, by omega⟩]
theorem isnan_any (x : Int) (w : World) : Calls Try.prog 101 #[.int .i64 x] w fun e w' => e = .returned (.bool false) ∧ w = w' := by
  go_enter Try.func101, Try.ntmps101
  go_wp2_with fail
  go_ret
  simp
def cmpI (x y : Int) : Int := if x < y then -1 else if y < x then 1 else 0
theorem compareI (x y : Int) (w : World) : Calls Try.prog 84 #[.int .i64 x, .int .i64 y] w fun e w' => e = .returned (.int .i64 (cmpI x y)) ∧ w = w' := by
  unfold cmpI
  by_cases h1 : x < y
  · rw [if_pos h1]
    go_enter Try.func84, Try.ntmps84
    go_wp2_with fail
    refine (isnan_any x _).mono ?_
    rintro e w' ⟨rfl, rfl⟩
    go_wp2_with fail
    refine (isnan_any y _).mono ?_
    rintro e w' ⟨rfl, rfl⟩
    go_wp2_with fail
    go_ret
    exact ⟨rfl, rfl⟩
  · rw [if_neg h1]
    by_cases h2 : y < x
    · rw [if_pos h2]
      go_enter Try.func84, Try.ntmps84
      go_wp2_with fail
      refine (isnan_any x _).mono ?_
      rintro e w' ⟨rfl, rfl⟩
      go_wp2_with fail
      refine (isnan_any y _).mono ?_
      rintro e w' ⟨rfl, rfl⟩
      go_wp2_with fail
      go_ret
      exact ⟨rfl, rfl⟩
    · rw [if_neg h2]
      go_enter Try.func84, Try.ntmps84
      go_wp2_with fail
      refine (isnan_any x _).mono ?_
      rintro e w' ⟨rfl, rfl⟩
      go_wp2_with fail
      refine (isnan_any y _).mono ?_
      rintro e w' ⟨rfl, rfl⟩
      go_wp2_with fail
      go_ret
      exact ⟨rfl, rfl⟩
theorem closure_any (P : Nat → Prop) (b : Nat) (t : RX) (y : Int) (w : World) (h : RadW P w b t) (hs : t.lab.length ≤ 1000) : Calls Try.prog 83 #[at0 b, .int .i64 y] w fun e w' => e = .returned (.int .i64 (cmpI ((fst? t : Int) - 1) y)) ∧ w = w' := by
  have k := first_any P b t w h hs
  clear h
  go_enter Try.func83, Try.ntmps83
  go_wp2_with fail
  refine k.mono ?_
  rintro e w' ⟨rfl, rfl⟩
  go_wp2_with fail
  refine (compareI _ _ _).mono ?_
  rintro e w' ⟨rfl, rfl⟩
  go_wp2_with fail
  go_ret
  exact ⟨rfl, rfl⟩
/-- how many kids come ahead of a byte's -/
def posR : List RX → Nat → Nat
  | [], _ => 0
  | k :: ks, n => if fst? k < n then posR ks n + 1 else 0
def rat (ks : List RX) (j : Nat) : RX := ks.getD j (.node [] none [])
theorem rat_get {ks : List RX} {j : Nat} (h : j < ks.length) : ks[j]? = some (rat ks j) := by
  unfold rat; rw [List.getD_eq_getElem?_getD, List.getElem?_eq_getElem h]; rfl
def isR (ks : List RX) (n : Nat) : Bool := decide (posR ks n < ks.length ∧ fst? (rat ks (posR ks n)) = n)
theorem posR_le (ks : List RX) (n : Nat) : posR ks n ≤ ks.length := by
  induction ks with
  | nil => simp [posR]
  | cons k ks ih => simp only [posR]; split <;> simp <;> omega
theorem posR_lt (ks : List RX) (n j : Nat) (h : j < posR ks n) : fst? (rat ks j) < n := by
  induction ks generalizing j with
  | nil => simp [posR] at h
  | cons k ks ih =>
    simp only [posR] at h
    split at h
    · cases j with
      | zero => simpa [rat]
      | succ j => simpa [rat] using ih j (by omega)
    · omega
theorem posR_not (ks : List RX) (n : Nat) (h : posR ks n < ks.length) : ¬ fst? (rat ks (posR ks n)) < n := by
  induction ks with
  | nil => simp at h
  | cons k ks ih =>
    simp only [posR] at h ⊢
    split
    · rename_i hlt
      rw [if_pos hlt] at h
      simpa [rat] using ih (by simpa using h)
    · rename_i hlt; simpa [rat] using hlt
theorem posR_ge {ks : List RX} (hr : ks.Pairwise (fun a b => fst? a < fst? b)) (n j : Nat) (h : posR ks n ≤ j) (hj : j < ks.length) : ¬ fst? (rat ks j) < n := by
  have h0 := posR_not ks n (by omega)
  rcases Nat.lt_or_eq_of_le h with h | h
  · have h1 := rat_get (ks := ks) (show posR ks n < ks.length by omega)
    have h2 := rat_get hj
    rw [List.pairwise_iff_getElem] at hr
    have := hr _ _ (by omega) hj h
    rw [List.getElem?_eq_some_iff] at h1 h2
    obtain ⟨_, h1⟩ := h1
    obtain ⟨_, h2⟩ := h2
    rw [h1, h2] at this
    omega
  · rw [← h]; exact h0
def fn83 : Value := .func (.func 83) #[] #[]
/-- the cells of a row of children -/
theorem OwnK.at_ {w : World} {base : Nat} {kv : Value} {bs : List Nat} (h : OwnK base w kv bs) (j : Nat) (hj : j < bs.length) : ∃ g c, kv = .slice (some ⟨g, 0, none⟩) bs.length c ∧ w.cell? ⟨g, j, none⟩ = some (at0 (bs.getD j 0)) := by
  obtain ⟨g, cap, cur, e, -⟩ := own_blk h (by omega)
  subst e
  refine ⟨g, cap, rfl, ?_⟩
  have := World.ownsRow.cellAt h j (by omega)
  rw [this]
  unfold kcs
  rw [List.getElem?_map, List.getElem?_eq_getElem hj, List.getD_eq_getElem?_getD, List.getElem?_eq_getElem hj]; rfl
theorem OwnK.stay {base : Nat} {w w' : World} {v : Value} {xs : List Nat} (h : OwnK base w v xs) (hb : Below w.heap.size w w') : OwnK base w' v xs := own_keep h (Keep.of_below (X := []) hb) (by simp)
set_option maxHeartbeats 8000000 in
theorem bsearchK (P : Nat → Prop) (base : Nat) (kv : Value) (bs : List Nat) (ks : List RX) (x : Nat) (w : World) (hO : OwnK base w kv bs) (hl : bs.length = ks.length) (hk : ∀ (i c : Nat) (k : RX), bs[i]? = some c → ks[i]? = some k → RadW P w c k)
    (hn : ks.length ≤ 1000) (hr : ks.Pairwise (fun a b => fst? a < fst? b)) (hs : ∀ k ∈ ks, k.lab.length ≤ 1000) (hx : x ≤ 256) :
    Calls Try.prog 82 #[kv, .int .i64 x, fn83] w fun e w' => e = .returned (.tuple #[.int .i64 (posR ks (x + 1)), .bool (isR ks (x + 1))]) ∧ Below w.heap.size w w' := by
  obtain ⟨N, hN⟩ : ∃ N, N = ks.length := ⟨_, rfl⟩
  obtain ⟨Q, hQ⟩ : ∃ Q, Q = posR ks (x + 1) := ⟨_, rfl⟩
  have hQN : Q ≤ N := by rw [hQ, hN]; exact posR_le _ _
  obtain ⟨A, c, hkv⟩ : ∃ A c, kv = .slice A N c := by
    rcases hO.2 with ⟨e, h0⟩ | ⟨g, cap, cur, e, _⟩
    · exact ⟨none, 0, by rw [e, hN, ← hl, h0]⟩
    · exact ⟨_, _, by rw [e, hN, hl]⟩
  subst hkv
  rw [← hQ]
  have hn' : N ≤ 1000 := by omega
  have HN := Lib.hid hN
  have HQ := Lib.hid hQ
  have HO := Lib.hid hO
  have HK := Lib.hid hk
  have HS := Lib.hid hr
  have HL := Lib.hid hs
  have HB := Lib.hid hl
  have hcall : ∀ j, j < N → ∀ wr, Below w.heap.size w wr → (∃ g c, A = some ⟨g, 0, none⟩ ∧ wr.cell? ⟨g, j, none⟩ = some (at0 (bs.getD j 0))) ∧ Calls Try.prog 83 #[at0 (bs.getD j 0), .int .i64 x] wr fun e w' => e = .returned (.int .i64 (cmpI ((fst? (rat ks j) : Int) - 1) x)) ∧ wr = w' := fun j hj wr hB => by
    have hjb : j < bs.length := by rw [hl, ← hN]; exact hj
    obtain ⟨g, c, e, h⟩ := (hO.stay hB).at_ j hjb
    refine ⟨⟨g, c, by simpa using congrArg (fun v : Value => match v with | .slice a _ _ => a | _ => none) e, h⟩, ?_⟩
    have hb2 : bs[j]? = some (bs.getD j 0) := by rw [List.getD_eq_getElem?_getD, List.getElem?_eq_getElem hjb]; rfl
    have hk2 := rat_get (ks := ks) (j := j) (by omega)
    exact closure_any P _ _ _ _ ((hk j _ _ hb2 hk2).stay hB) (hs _ (List.mem_of_getElem? hk2))
  clear hN hQ hO hk hr hs hl hn
  unfold fn83
  go_enter Try.func82, Try.ntmps82
  go_wp2_with fail
  go_loopw [9, 10] (fun vi vj wr => ∃ (i j : Nat), vi = .int .i64 i ∧ vj = .int .i64 j ∧ i ≤ Q ∧ Q ≤ j ∧ j ≤ N ∧ Below w.heap.size w wr) (fun vi vj wr => (intOf vj).toNat - (intOf vi).toNat)
  case atStart => exact ⟨0, N, rfl, rfl, Nat.zero_le _, hQN, Nat.le_refl _, Below.refl _ _⟩
  case round =>
    obtain ⟨i, j, rfl, rfl, hi, hij, hj, hB⟩ := hrel
    by_cases hlt : i < j
    · obtain ⟨h, hh⟩ : ∃ h, h = (i + j) / 2 := ⟨_, rfl⟩
      have B1 : i ≤ h ∧ h < j := by omega
      have E1 : IntKind.i64.wrap ((i : Int) + (j : Int)) = (i : Int) + (j : Int) := IntWalk.i64_in _ (by omega)
      have E2 : ((i : Int) + (j : Int)) / 2 = (h : Int) := by omega
      have E3 : IntKind.i64.wrap ((h : Int) + 1) = ((h + 1 : Nat) : Int) := by rw [IntWalk.i64_in _ (by omega)]; omega
      clear hh
      obtain ⟨⟨g, c', rfl, c0⟩, hc⟩ := hcall h (by omega) _ hB
      unfold at0 at c0
      have B2 : (h : Int) < (N : Int) := by omega
      have hge := posR_ge HS.out (x + 1) h
      have hlt' := posR_lt ks (x + 1) h
      rw [← HQ.out] at hge hlt'
      rw [← HN.out] at hge
      unfold at0 at hc
      generalize fst? (rat ks h) = F at *
      generalize bs.getD h 0 = kb at *
      clear hcall
      by_cases hcmp : F < x + 1
      · have S : h + 1 ≤ Q := by
          rcases Nat.lt_or_ge h Q with q | q
          · exact q
          · exact absurd hcmp (hge q (by omega))
        have hcv : cmpI ((F : Int) - 1) x = -1 := by unfold cmpI; rw [if_pos (by omega)]
        rw [hcv] at hc
        clear hge hlt' hcv
        go_wp2_with fail
        refine hc.mono ?_
        rintro e w1 ⟨rfl, rfl⟩
        go_wp2_with fail
        refine ⟨⟨h + 1, j, by go_num, rfl, S, hij, hj, hB⟩, ?_⟩
        simp [intOf]; omega
      · have S : Q ≤ h := by
          rcases Nat.lt_or_ge h Q with q | q
          · exact absurd (hlt' q) hcmp
          · exact q
        have hcv : ¬ (cmpI ((F : Int) - 1) x < 0) := by
          unfold cmpI
          rw [if_neg (by omega)]
          split <;> omega
        clear hge hlt'
        generalize cmpI ((F : Int) - 1) x = cv at *
        go_wp2_with fail
        refine hc.mono ?_
        rintro e w1 ⟨rfl, rfl⟩
        go_wp2_with fail
        refine ⟨⟨i, h, rfl, rfl, hi, S, by omega, hB⟩, ?_⟩
        simp [intOf]; omega
    · obtain rfl : i = Q := by omega
      by_cases hend : i < N
      · obtain ⟨⟨g, c', rfl, c0⟩, hc⟩ := hcall i hend _ hB
        unfold at0 at c0
        have B2 : (i : Int) < (N : Int) := by omega
        have HI := Lib.hid (show isR ks (x + 1) = (cmpI ((fst? (rat ks i) : Int) - 1) x == 0) by
          have hq := posR_not ks (x + 1)
          unfold isR
          rw [← HQ.out, ← HN.out] at *
          have := hq hend
          unfold cmpI
          by_cases e : fst? (rat ks i) = x + 1
          · simp [e, hend]
          · have h1 : ¬ ((fst? (rat ks i) : Int) - 1 < x) := by omega
            have h2 : (x : Int) < (fst? (rat ks i) : Int) - 1 := by omega
            simp [e, h1, h2])
        unfold at0 at hc
        clear hcall
        generalize fst? (rat ks i) = F at *
        generalize bs.getD i 0 = kb at *
        generalize cmpI ((F : Int) - 1) x = cv at *
        go_wp2_with fail
        refine hc.mono ?_
        rintro e w1 ⟨rfl, rfl⟩
        go_wp2_with fail
        go_ret2
        rw [HI.out]
        exact ⟨rfl, hB⟩
      · have HI := Lib.hid (show isR ks (x + 1) = false by unfold isR; rw [← HQ.out, ← HN.out]; simp [hend])
        have B2 : ¬ ((i : Int) < (N : Int)) := by omega
        clear hcall
        go_wp2_with fail
        go_ret2
        rw [HI.out]
        exact ⟨rfl, hB⟩
/-- where the child is whose label begins with a byte -/
theorem place_any (P : Nat → Prop) (base b : Nat) (t : RX) (kv : Value) (bs : List Nat) (x : UInt8) (w : World) (h : Nod base w b t kv bs) (hk : ∀ (i c : Nat) (k : RX), bs[i]? = some c → t.kids[i]? = some k → RadW P w c k)
    (hc : Can t) (hs : ∀ k ∈ t.kids, k.lab.length ≤ 1000) :
    Calls Try.prog 54 #[at0 b, .int .u8 x.toNat] w fun e w' => e = .returned (.tuple #[.int .i64 (posR t.kids (x.toNat + 1)), .bool (isR t.kids (x.toNat + 1))]) ∧ Below w.heap.size w w' := by
  have hx := x.toNat_lt
  have k := bsearchK P base kv bs t.kids x.toNat w h.row h.len hk (by have := kids_few hc; omega) hc.rises hs (by omega)
  obtain ⟨o, lab, val, sh, e1, e2, hB, c0, c1, c2, c3, c4, c5⟩ := h.cells
  obtain ⟨A, n, c, hkv⟩ : ∃ A n c, kv = .slice A n c := by
    rcases h.row.2 with ⟨e, _⟩ | ⟨g, cap, cur, e, _⟩
    · exact ⟨_, _, _, e⟩
    · exact ⟨_, _, _, e⟩
  subst hkv
  have hw : IntKind.i64.wrap (x.toNat : Int) = x.toNat := IntWalk.i64_in _ (by omega)
  clear h hB hk hc hs e1 e2
  generalize posR t.kids (x.toNat + 1) = Q at *
  generalize isR t.kids (x.toNat + 1) = I at *
  generalize x.toNat = X at *
  unfold fn83 at k
  unfold at0
  go_enter Try.func54, Try.ntmps54
  go_wp2_with fail
  refine k.mono ?_
  rintro e w' ⟨rfl, hB⟩
  go_wp2_with fail
  go_ret2
  exact ⟨rfl, hB⟩
end Go.Proofs.Ytchimfgbdfmegaa
/- Of a change: new nodes, whose a node is, and the node that is changed. -/
namespace Go.Proofs.Ytchimfgbdfmegaa
open Go.RowKit Go.Lib
set_option linter.unusedVariables false
set_option linter.unusedSimpArgs false
set_option maxRecDepth 100000
theorem DeadT.stay {base : Nat} {w w' : World} {v : Value} (h : DeadT base w v) (hb : Below w.heap.size w w') : DeadT base w' v := by
  rcases h with h | ⟨t, p, id, h1, h2, h3⟩
  · exact .inl h
  · exact .inr ⟨t, p, id, h1, h2.keep (Keep.of_below (X := []) hb) (by simp), h3⟩
def freshN (lab : ByteArray) : Array Value := #[.pointer none, .string lab, .string ⟨#[]⟩, .bool false, .slice none 0 0, .bool false]
theorem leaf_any (base : Nat) (tv : Value) (lab : ByteArray) (w : World) (hd : DeadT base w tv) : Calls Try.prog 50 #[.agg #[tv], .string lab] w fun e w' => ∃ b, e = .returned (at0 b) ∧ w.heap.size ≤ b ∧ Blk w' b 101 (freshN lab) ∧ Below w.heap.size w w' := by
  obtain ⟨a, rfl⟩ := hd.form
  have hB1 := (Below.refl _ w).alloc (Nat.le_refl _) (.cells #[.pointer a] 104)
  have hb := Blk.new w 104 #[.pointer a]
  have hB2 := hB1.alloc hB1.size (.cells (freshN lab) 101)
  have hN := Blk.new (w.alloc (.cells #[.pointer a] 104)) 101 (freshN lab)
  have hb2 := hb.alloc (.cells (freshN lab) 101)
  have hk := (hd.stay hB2).live
  have hsz : (w.alloc (.cells #[.pointer a] 104)).heap.size = w.heap.size + 1 := by simp
  rw [hsz] at hN
  clear hsz hb hB1
  unfold freshN at hk hb2 hN hB2
  go_enter Try.func50, Try.ntmps50
  go_wp2_with fail
  refine hk.mono ?_
  rintro e w' ⟨rfl, rfl⟩
  go_wp2_with fail
  go_ret
  exact ⟨_, rfl, by omega, hN, hB2⟩
theorem Nod.fresh {base : Nat} {w : World} {b : Nat} {lab : ByteArray} (h : Blk w b 101 (freshN lab)) : Nod base w b (.node lab.data.toList none []) (.slice none 0 0) [] :=
  ⟨⟨.pointer none, lab, ⟨#[]⟩, false, h, rfl, rfl⟩, World.ownsRow_nil _ _ _ _, rfl⟩
theorem MineW.fresh {P : Nat → Prop} {base : Nat} {w : World} {b : Nat} {lab : ByteArray} (h : Blk w b 101 (freshN lab)) (hb : base ≤ b) : MineW P base w b (.node lab.data.toList none []) :=
  ⟨_, _, Nod.fresh h, hb, fun i c k hc => by simp at hc⟩
theorem neq_nil (b : Nat) (w : World) : True := trivial
/-- no node is a dead token's -/
theorem owned_dead (base b : Nat) (tv : Value) (w : World) (hd : DeadT base w tv) : Calls Try.prog 28 #[at0 b, tv] w fun e w' => e = .returned (.bool false) ∧ w = w' := by
  obtain ⟨a, rfl⟩ := hd.form
  have hk := hd.live
  unfold at0
  go_enter Try.func28, Try.ntmps28
  go_wp2_with fail
  refine hk.mono ?_
  rintro e w' ⟨rfl, rfl⟩
  go_wp2_with fail
  go_ret
  exact ⟨rfl, rfl⟩
theorem inside_dead (base base' b k : Nat) (t : RX) (kv tv : Value) (bs : List Nat) (w : World) (hd : DeadT base w tv) (h : Nod base' w b t kv bs) : Calls Try.prog 78 #[.agg #[tv], at0 b, at0 k] w fun e w' => e = .returned (.bool false) ∧ Below w.heap.size w w' := by
  obtain ⟨a, rfl⟩ := hd.form
  have hB1 := (Below.refl _ w).alloc (Nat.le_refl _) (.cells #[.pointer a] 104)
  have hk := owned_dead base k (.pointer a) _ (hd.stay hB1)
  have h1 := h.keep (Keep.of_below (X := []) hB1) (by simp) (by simp)
  obtain ⟨o, lab, val, sh, e1, e2, hB, c0, c1, c2, c3, c4, c5⟩ := h1.cells
  clear h h1 hB
  unfold at0 at *
  cases sh with
  | true =>
    go_enter Try.func78, Try.ntmps78
    go_wp2_with fail
    go_ret
    exact ⟨rfl, hB1⟩
  | false =>
    go_enter Try.func78, Try.ntmps78
    go_wp2_with fail
    refine hk.mono ?_
    rintro e w' ⟨rfl, rfl⟩
    go_wp2_with fail
    go_ret
    exact ⟨rfl, hB1⟩
theorem shares1 (base k X : Nat) (tv : Value) (w : World) (hd : DeadT base w tv) (hX : Blk w X 104 #[tv]) : Calls Try.prog 118 #[at0 k, .pointer (some ⟨X, 0, none⟩)] w fun e w' => e = .returned (.bool false) ∧ w = w' := by
  have hk := owned_dead base k tv w hd
  have c0 := hX.cell 0
  obtain ⟨a, rfl⟩ := hd.form
  simp at c0
  clear hX hd
  unfold at0 at *
  go_enter Try.func118, Try.ntmps118
  go_wp2_with fail
  refine hk.mono ?_
  rintro e w' ⟨rfl, rfl⟩
  go_wp2_with fail
  go_ret
  exact ⟨rfl, rfl⟩
def fn118 (X : Nat) : Value := .func (.func 118) #[] #[.pointer (some ⟨X, 0, none⟩)]
theorem index_dead (base base' X : Nat) (kv tv : Value) (bs : List Nat) (w : World) (hd : DeadT base w tv) (hX : Blk w X 104 #[tv]) (hO : OwnK base' w kv bs) (hn : bs.length ≤ 1000) : Calls Try.prog 128 #[kv, fn118 X] w fun e w' => e = .returned (.int .i64 (-1)) ∧ Below w.heap.size w w' := by
  obtain ⟨N, hN⟩ : ∃ N, N = bs.length := ⟨_, rfl⟩
  obtain ⟨A, c, hkv⟩ : ∃ A c, kv = .slice A N c := by
    rcases hO.2 with ⟨e, h0⟩ | ⟨g, cap, cur, e, _⟩
    · exact ⟨none, 0, by rw [e, hN, h0]⟩
    · exact ⟨_, _, by rw [e, hN]⟩
  subst hkv
  rw [← hN] at hn
  have hcall : ∀ j, j < N → ∀ wr, Below w.heap.size w wr → (∃ g c, A = some ⟨g, 0, none⟩ ∧ wr.cell? ⟨g, j, none⟩ = some (at0 (bs.getD j 0))) ∧ Calls Try.prog 118 #[at0 (bs.getD j 0), .pointer (some ⟨X, 0, none⟩)] wr fun e w' => e = .returned (.bool false) ∧ wr = w' := fun j hj wr hB => by
    obtain ⟨g, c, e, h⟩ := (hO.stay hB).at_ j (by omega)
    refine ⟨⟨g, c, by simpa using congrArg (fun v : Value => match v with | .slice a _ _ => a | _ => none) e, h⟩, ?_⟩
    exact shares1 base _ X tv wr (hd.stay hB) (hX.keep (Keep.of_below (X := []) hB) (by simp))
  clear hO hd hX hN
  unfold fn118
  go_enter Try.func128, Try.ntmps128
  go_wp2_with fail
  go_loopw [8] (fun vi wr => ∃ i : Nat, vi = .int .i64 i ∧ i ≤ N ∧ Below w.heap.size w wr) (fun vi wr => N - (intOf vi).toNat)
  case atStart => exact ⟨0, rfl, Nat.zero_le _, Below.refl _ _⟩
  case round =>
    obtain ⟨i, rfl, hi, hB⟩ := hrel
    by_cases hlt : i < N
    · obtain ⟨⟨g, c', rfl, c0⟩, hc⟩ := hcall i hlt _ hB
      have B2 : (i : Int) < (N : Int) := by omega
      have E3 : IntKind.i64.wrap ((i : Int) + 1) = ((i + 1 : Nat) : Int) := by rw [IntWalk.i64_in _ (by omega)]; omega
      unfold at0 at c0 hc
      generalize bs.getD i 0 = kb at *
      clear hcall
      go_wp2_with fail
      refine hc.mono ?_
      rintro e w1 ⟨rfl, rfl⟩
      go_wp2_with fail
      refine ⟨⟨i + 1, by go_num, by omega, hB⟩, ?_⟩
      simp [intOf]; omega
    · have B2 : ¬ ((i : Int) < (N : Int)) := by omega
      clear hcall
      go_wp2_with fail
      go_ret
      exact ⟨rfl, hB⟩
theorem contains_dead (base base' X : Nat) (kv tv : Value) (bs : List Nat) (w : World) (hd : DeadT base w tv) (hX : Blk w X 104 #[tv]) (hO : OwnK base' w kv bs) (hn : bs.length ≤ 1000) : Calls Try.prog 117 #[kv, fn118 X] w fun e w' => e = .returned (.bool false) ∧ Below w.heap.size w w' := by
  have hk := index_dead base base' X kv tv bs w hd hX hO hn
  obtain ⟨A, n, c, rfl⟩ : ∃ A n c, kv = .slice A n c := by
    rcases hO.2 with ⟨e, _⟩ | ⟨g, cap, cur, e, _⟩
    · exact ⟨_, _, _, e⟩
    · exact ⟨_, _, _, e⟩
  clear hd hX hO
  unfold fn118 at *
  go_enter Try.func117, Try.ntmps117
  go_wp2_with fail
  refine hk.mono ?_
  rintro e w' ⟨rfl, hB⟩
  go_wp2_with fail
  go_ret
  exact ⟨rfl, hB⟩
theorem shares_dead (base base' b : Nat) (t : RX) (kv tv : Value) (bs : List Nat) (w : World) (hd : DeadT base w tv) (h : Nod base' w b t kv bs) (hn : bs.length ≤ 1000) : Calls Try.prog 98 #[.agg #[tv], at0 b, .bool false] w fun e w' => e = .returned (.bool false) ∧ Below w.heap.size w w' := by
  have hB1 := (Below.refl _ w).alloc (Nat.le_refl _) (.cells #[tv] 104)
  have hb := Blk.new w 104 #[tv]
  have h1 := h.keep (Keep.of_below (X := []) hB1) (by simp) (by simp)
  have hk := contains_dead base base' w.heap.size kv tv bs _ (hd.stay hB1) hb h1.row hn
  obtain ⟨a, rfl⟩ := hd.form
  obtain ⟨A, n, c, rfl⟩ : ∃ A n c, kv = .slice A n c := by
    rcases h.row.2 with ⟨e, _⟩ | ⟨g, cap, cur, e, _⟩
    · exact ⟨_, _, _, e⟩
    · exact ⟨_, _, _, e⟩
  obtain ⟨o, lab, val, sh, e1, e2, hB, c0, c1, c2, c3, c4, c5⟩ := h1.cells
  clear h h1 hB hd
  unfold at0 fn118 at *
  go_enter Try.func98, Try.ntmps98
  go_wp2_with fail
  refine hk.mono ?_
  rintro e w' ⟨rfl, hB⟩
  go_wp2_with fail
  go_ret
  exact ⟨rfl, (hB1.trans (hB.mono hB1.size))⟩
end Go.Proofs.Ytchimfgbdfmegaa
/- The node that a change is made to. -/
namespace Go.Proofs.Ytchimfgbdfmegaa
open Go.RowKit Go.Lib
set_option linter.unusedVariables false
set_option linter.unusedSimpArgs false
set_option maxRecDepth 100000
theorem keepO {w w' : World} {b X : Nat} {v2 v3 v4 x : Value} (h : w.cell? ⟨b, 2, none⟩ = some v2 ∧ w.cell? ⟨b, 3, none⟩ = some v3 ∧ w.cell? ⟨b, 4, none⟩ = some v4 ∧ w.cell? ⟨X, 0, none⟩ = some x) (hb : Below w.heap.size w w') :
    w'.cell? ⟨b, 2, none⟩ = some v2 ∧ w'.cell? ⟨b, 3, none⟩ = some v3 ∧ w'.cell? ⟨b, 4, none⟩ = some v4 ∧ w'.cell? ⟨X, 0, none⟩ = some x := by
  have hl : b < w.heap.size := World.block_lt_of_cell? w _ h.1
  have hX : X < w.heap.size := World.block_lt_of_cell? w _ h.2.2.2
  exact ⟨(hb.cell hl).trans h.1, (hb.cell hl).trans h.2.1, (hb.cell hl).trans h.2.2.1, (hb.cell hX).trans h.2.2.2⟩
theorem keep2 {w w' : World} {b X i j : Nat} {v x : Value} (h : w.cell? ⟨b, i, none⟩ = some v ∧ w.cell? ⟨X, j, none⟩ = some x) (hb : Below w.heap.size w w') :
    w'.cell? ⟨b, i, none⟩ = some v ∧ w'.cell? ⟨X, j, none⟩ = some x :=
  ⟨(hb.cell (World.block_lt_of_cell? w _ h.1)).trans h.1, (hb.cell (World.block_lt_of_cell? w _ h.2)).trans h.2⟩
theorem OwnK.form {base : Nat} {w : World} {v : Value} {xs : List Nat} (h : OwnK base w v xs) : ∃ A n c, v = .slice A n c := by
  rcases h.2 with ⟨e, _⟩ | ⟨g, cap, cur, e, _⟩
  · exact ⟨_, _, _, e⟩
  · exact ⟨_, _, _, e⟩
theorem Blk.stay {w w' : World} {g : Nat} {t : TypeId} {cs : Array Value} (h : Blk w g t cs) (hb : Below w.heap.size w w') : Blk w' g t cs := h.keep (Keep.of_below (X := []) hb) (by simp)
theorem Nod.stay {base : Nat} {w w' : World} {b : Nat} {t : RX} {kv : Value} {bs : List Nat} (h : Nod base w b t kv bs) (hb : Below w.heap.size w w') : Nod base w' b t kv bs := h.keep (Keep.of_below (X := []) hb) (by simp) (by simp)
theorem six {w : World} {g : Nat} {t : TypeId} {a b c d e f : Value} (h : Blk w g t #[a, b, c, d, e, f]) :
    (w.cell? ⟨g, 0, none⟩ = some a ∧ w.cell? ⟨g, 1, none⟩ = some b ∧ w.cell? ⟨g, 2, none⟩ = some c ∧ w.cell? ⟨g, 3, none⟩ = some d ∧ w.cell? ⟨g, 4, none⟩ = some e ∧ w.cell? ⟨g, 5, none⟩ = some f) ∧
    (w.frozen? ⟨g, 0, none⟩ = false ∧ w.frozen? ⟨g, 1, none⟩ = false ∧ w.frozen? ⟨g, 2, none⟩ = false ∧ w.frozen? ⟨g, 3, none⟩ = false ∧ w.frozen? ⟨g, 4, none⟩ = false ∧ w.frozen? ⟨g, 5, none⟩ = false) :=
  ⟨⟨h.cell 0, h.cell 1, h.cell 2, h.cell 3, h.cell 4, h.cell 5⟩, h.frozen 0, h.frozen 1, h.frozen 2, h.frozen 3, h.frozen 4, h.frozen 5⟩
/-- what own leaves -/
def OwnPost (P : Nat → Prop) (base : Nat) (ours : Bool) (b0 : Nat) (t : RX) (w : World) (e : Ending) (w' : World) : Prop := ∃ b, e = .returned (at0 b) ∧ (ours = true → b = b0) ∧ MineW P base w' b t ∧ Below w.heap.size w w'
def Src (P : Nat → Prop) (base : Nat) (w : World) (ours : Bool) (b : Nat) (t : RX) : Prop := (ours = true ∧ MineW P base w b t) ∨ (ours = false ∧ RadW P w b t)
theorem own_mine (P : Nat → Prop) (base b : Nat) (t : RX) (tv : Value) (w : World) (hd : DeadT base w tv) (hb : base ≤ w.heap.size) (h : MineW P base w b t) : Calls Try.prog 75 #[.agg #[tv], at0 b, .bool true] w (OwnPost P base true b t w) := by
  obtain ⟨a, rfl⟩ := hd.form
  have hB1 := (Below.refl _ w).alloc (Nat.le_refl _) (.cells #[.pointer a] 104)
  unfold at0
  go_enter Try.func75, Try.ntmps75
  go_wp2_with fail
  go_ret
  exact ⟨b, rfl, fun _ => rfl, h.below hB1, hB1⟩
set_option maxHeartbeats 8000000 in
theorem own_copy (P : Nat → Prop) (base b : Nat) (t : RX) (tv : Value) (w : World) (hd : DeadT base w tv) (hb : base ≤ w.heap.size) (h : RadW P w b t) (hn : t.kids.length ≤ 800) : Calls Try.prog 75 #[.agg #[tv], at0 b, .bool false] w (OwnPost P base false b t w) := by
  have hB1 := (Below.refl _ w).alloc (Nat.le_refl _) (.cells #[tv] 104)
  have hX := Blk.new w 104 #[tv]
  have hd1 := hd.stay hB1
  have hRold := h.old
  cases hRold with
  | @mk _ _ kv bs hN hPb hPk hK =>
  have hN1 := hN.stay hB1
  have hln : bs.length ≤ 800 := by rw [hN.len]; exact hn
  have hLn := hN.len
  obtain ⟨o, lab, val, sh, e1, e2, hB, c0, c1, c2, c3, c4, c5⟩ := hN1.cells
  have kl := leaf_any base tv lab _ hd1
  obtain ⟨a, ha⟩ := hd.form
  subst ha
  obtain ⟨A, n, c, hkv⟩ := hN.row.form
  subst hkv
  have HK := Lib.hid hK
  clear h hK hd hPb hPk hN
  unfold at0
  go_enter Try.func75, Try.ntmps75
  go_wp2_with fail
  generalize hW0 : w.alloc (.cells #[.pointer a] 104) = W0 at *
  obtain ⟨X, hXe⟩ : ∃ X, X = w.heap.size := ⟨_, rfl⟩
  rw [← hXe] at hX ⊢
  have x0 := hX.cell 0
  simp at x0
  have HX := Lib.hid hXe
  have HW := Lib.hid hW0
  have HB1 := Lib.hid hB1
  clear hXe hW0 hB1
  have kl' : ∀ W, Below W0.heap.size W0 W → Calls Try.prog 50 #[.agg #[.pointer a], .string lab] W fun e w' => ∃ b, e = .returned (at0 b) ∧ W.heap.size ≤ b ∧ Blk w' b 101 (freshN lab) ∧ Below W.heap.size W w' := fun W hW => leaf_any base _ lab W (hd1.stay hW)
  go_region_held3 (fun w' : World => w'.cell? ⟨b, 1, none⟩ = some (.string lab) ∧ w'.cell? ⟨X, 0, none⟩ = some (.pointer a)) (first | exact ⟨c1, x0⟩ | exact keep2 (by assumption) hB2 | go_keep) (first
    | (go_at_call 50; refine (kl' _ (Below.refl _ _).drew).mono ?_; rintro e w1 ⟨M, rfl, hM, hBM, hB2⟩))
  have hB3 : Below W0.heap.size W0 w1 := (Below.refl _ W0).drew.trans hB2
  have hML : W0.heap.size ≤ M := hM
  have hN2 : Nod 0 w1.drew b t (.slice A n c) bs := hN1.stay (hB3.trans (Below.refl _ w1).drew)
  have hd2 : DeadT base w1.drew (.pointer a) := hd1.stay (hB3.trans (Below.refl _ w1).drew)
  have hX2 : Blk w1.drew X 104 #[.pointer a] := hX.stay (hB3.trans (Below.refl _ w1).drew)
  have hM2 : Blk w1.drew M 101 (freshN lab) := hBM
  have hB4 : Below w.heap.size w w1.drew := (HB1.out.trans (hB3.mono HB1.out.size)).drew
  have hMl : M < w1.heap.size := hBM.lt
  obtain ⟨⟨d0, d1, d2, d3, d4, d5⟩, -⟩ := six (hB.stay (hB3.trans (Below.refl _ w1).drew))
  have hx2 : w1.drew.cell? ⟨X, 0, none⟩ = some (.pointer a) := hX2.cell 0
  have hOL : Hid (w1.drew.heap.size ≤ w1.drew.heap.size) := Lib.hid (Nat.le_refl _)
  have HL := Lib.hid (hML)
  have HMl := Lib.hid hMl
  have hne : ¬ (M = X) := by
    intro e; rw [e] at hML; have := hX.lt; omega
  have hne2 : ¬ (M = b) := by
    intro e; rw [e] at hML; have := hN1.lt; omega
  clear hB2 hM hBM hN1 hd1 hX x0 c0 c1 c2 c3 c4 c5 kl kl' hX2 d0 d1 d5 hB hMl hML
  obtain ⟨L, hL⟩ : ∃ L, L = w1.heap.size := ⟨_, rfl⟩
  have HLL := Lib.hid hL
  unfold at0
  go_wp2_with fail
  go_region_held3 (fun w' : World => w'.cell? ⟨b, 2, none⟩ = some (.string val) ∧ w'.cell? ⟨b, 3, none⟩ = some (.bool t.val.isSome) ∧ w'.cell? ⟨b, 4, none⟩ = some (.slice A n c) ∧ w'.cell? ⟨X, 0, none⟩ = some (.pointer a)) (first | exact ⟨d2, d3, d4, hx2⟩ | exact keepO (by assumption) hB | go_keep) (first
    | (have _g := hO1; clear _g; go_at_call 98; refine (shares_dead base 0 b t (.slice A n c) (.pointer a) bs _ hd2 hN2 (by omega)).mono ?_; rintro e w3 ⟨rfl, hB⟩; replace hO1 := hO1.stay hB; replace hM2 := hM2.stay hB; replace hB4 := hB4.trans (hB.mono hB4.size); obtain ⟨⟨z0, z1, z2, z3, z4, z5⟩, y0, y1, y2, y3, y4, y5⟩ := six hM2)
    | (go_at_call 71; refine (clone_kids 0 (.slice A n c) bs _ hN2.row (by omega)).mono ?_; rintro e w2 ⟨v1, rfl, hO1, hB⟩; replace hO1 := hO1.base (b' := L) (Nat.le_of_eq hL); replace hM2 := hM2.stay hB; replace hN2 := hN2.stay hB; replace hd2 := hd2.stay hB; replace hB4 := hB4.trans (hB.mono hB4.size); obtain ⟨A1, n1, q1, rfl⟩ := hO1.form))
  have hwM : w.heap.size ≤ M := Nat.le_trans HB1.out.size HL.out
  have hwL : w.heap.size ≤ L := Nat.le_trans (Nat.le_trans HB1.out.size HL.out) (by rw [hL]; exact Nat.le_of_lt HMl.out)
  have hb9 : Blk ((((w3.setCell ⟨M, 2, none⟩ (.string (t.val.getD ByteArray.empty))).setCell ⟨M, 3, none⟩ (.bool t.val.isSome)).setCell ⟨M, 4, none⟩ (.slice A1 n1 q1)).setCell ⟨M, 5, none⟩ (.bool false)) M 101 #[.pointer none, .string lab, .string (t.val.getD ByteArray.empty), .bool t.val.isSome, .slice A1 n1 q1, .bool false] :=
    (((hM2.set_ 2 (.string (t.val.getD ByteArray.empty))).set_ 3 (.bool t.val.isSome)).set_ 4 (.slice A1 n1 q1)).set_ 5 (.bool false)
  have e9 : (Value.slice A1 n1 q1).ownBlock ≠ some M := own_ne hO1 (fun cur e => by unfold Blk at hM2; rw [hM2] at e; cases e)
  have hO9 : OwnK L ((((w3.setCell ⟨M, 2, none⟩ (.string (t.val.getD ByteArray.empty))).setCell ⟨M, 3, none⟩ (.bool t.val.isSome)).setCell ⟨M, 4, none⟩ (.slice A1 n1 q1)).setCell ⟨M, 5, none⟩ (.bool false)) (.slice A1 n1 q1) bs :=
    ownsRow_setCell_other (ownsRow_setCell_other (ownsRow_setCell_other (ownsRow_setCell_other hO1 e9 _) e9 _) e9 _) e9 _
  have hB9 : Below w.heap.size w ((((w3.setCell ⟨M, 2, none⟩ (.string (t.val.getD ByteArray.empty))).setCell ⟨M, 3, none⟩ (.bool t.val.isSome)).setCell ⟨M, 4, none⟩ (.slice A1 n1 q1)).setCell ⟨M, 5, none⟩ (.bool false)) :=
    (((hB4.setCell (p := ⟨M, 2, none⟩) hwM _).setCell (p := ⟨M, 3, none⟩) hwM _).setCell (p := ⟨M, 4, none⟩) hwM _).setCell (p := ⟨M, 5, none⟩) hwM _
  generalize (((w3.setCell ⟨M, 2, none⟩ (.string (t.val.getD ByteArray.empty))).setCell ⟨M, 3, none⟩ (.bool t.val.isSome)).setCell ⟨M, 4, none⟩ (.slice A1 n1 q1)).setCell ⟨M, 5, none⟩ (.bool false) = W9 at *
  clear z0 z1 z2 z3 z4 z5 y0 y1 y2 y3 y4 y5 hM2 hB hd2 hN2
  go_wp2_with fail
  go_ret
  refine ⟨M, rfl, fun h => by simp at h, ⟨.slice A1 n1 q1, bs, ⟨⟨_, lab, _, false, hb9, e1, rfl⟩, hO9.base (by omega), hLn⟩, by omega, fun i c' k hc hk => ?_⟩, hB9⟩
  refine ((HK.out i c' k hc hk).stay hB9).mono fun x hx _ => ⟨hx.1, by omega, fun e => ?_⟩
  have := own_ge hO9 x e
  omega
theorem own_any (P : Nat → Prop) (base b : Nat) (ours : Bool) (t : RX) (tv : Value) (w : World) (hd : DeadT base w tv) (hb : base ≤ w.heap.size) (h : Src P base w ours b t) (hn : t.kids.length ≤ 800) : Calls Try.prog 75 #[.agg #[tv], at0 b, .bool ours] w (OwnPost P base ours b t w) := by
  rcases h with ⟨rfl, h⟩ | ⟨rfl, h⟩
  · exact own_mine P base b t tv w hd hb h
  · exact own_copy P base b t tv w hd hb h hn
end Go.Proofs.Ytchimfgbdfmegaa
