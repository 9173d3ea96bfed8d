/- Sorted of package pair at every list of at most forty pairs, also at a nil one. -/
import Derived.Test.YtfmbikmpobieoaaMQ
import Derived.Test.YtfmbikmpobieoaaMV
import Derived.Test.YtfmbikmpobieoaaMP
namespace Go.Proofs.Ytfmbikmpobieoaa
open Go.ChangeShapes Go.WideShapes Go.RowKit Go.Lib Go.Deep
set_option linter.unusedVariables false
set_option maxRecDepth 100000
set_option maxRecDepth 100000
set_option linter.unusedSimpArgs false
theorem insertion_nil (w : World) : Calls Try.prog 68 #[.slice none 0 0, .int .i64 0, .int .i64 0, fn43] w fun e w' => e = .returned (.tuple #[]) ∧ w' = w := by
  unfold fn43
  go_enter Try.func68, Try.ntmps68
  go_wp2_with fail
  refine wp_loop_rounds 1 ?_
  rw [rounds_succ]
  go_wp2_with fail
  go_end0
  exact ⟨rfl, rfl⟩
theorem stable_nil (w : World) : Calls Try.prog 45 #[.slice none 0 0, .int .i64 0, fn43] w fun e w' => e = .returned (.tuple #[]) ∧ w' = w := by
  unfold fn43
  go_enter Try.func45, Try.ntmps45
  go_wp2_with fail
  refine wp_loop_rounds 1 ?_
  rw [rounds_succ]
  go_wp2_with fail
  refine (insertion_nil w).mono ?_
  rintro e w1 ⟨rfl, rfl⟩
  go_wp2_with fail
  refine wp_loop_rounds 1 ?_
  rw [rounds_succ]
  go_wp2_with fail
  go_end0
  exact ⟨rfl, rfl⟩
theorem sortStable_nil (w : World) : Calls Try.prog 25 #[.slice none 0 0, fn43] w fun e w' => e = .returned (.tuple #[]) ∧ w' = w := by
  unfold fn43
  go_enter Try.func25, Try.ntmps25
  go_wp2_with fail
  refine (stable_nil w).mono ?_
  rintro e w1 ⟨rfl, rfl⟩
  go_wp2_with fail
  go_end0
  exact ⟨rfl, rfl⟩
theorem clone_nilQ (w : World) : Calls Try.prog 24 #[.slice none 0 0] w fun e w' => e = .returned (.slice none 0 0) ∧ w' = w := by
  have hnl := fun w => run_eql_slice_nil (P := Try.prog) w 25 32 none 0 0 0 0 Try.underlying25
  go_enter Try.func24, Try.ntmps24
  go_wp2_with fail
  go_ret
  exact ⟨rfl, rfl⟩
theorem sorted_nil (w : World) : Calls Try.prog 8 #[.slice none 0 0] w fun e w' => e = .returned (.slice none 0 0) ∧ w' = w := by
  go_enter Try.func8, Try.ntmps8
  go_wp2_with fail
  refine (clone_nilQ w).mono ?_
  rintro e w1 ⟨rfl, rfl⟩
  go_wp2_with fail
  refine (sortStable_nil w1).mono ?_
  rintro e w2 ⟨rfl, rfl⟩
  go_wp2_with fail
  refine wp_loop_rounds 1 ?_
  rw [rounds_succ]
  go_wp2_with fail
  go_ret
  exact ⟨rfl, rfl⟩
/-- where a list of one's own begins -/
def At (A : Option Addr) (c : Nat) : Prop := (A = none ∧ c = 0) ∨ ∃ g, A = some ⟨g, 0, none⟩
theorem Own.lie {base : Nat} {w : World} {v : Value} {xs : List Pr} (h : Own base w v xs) : ∃ A c, v = .slice A xs.length c ∧ Rd w A xs ∧ At A c ∧ (A = none → xs = []) := by
  rcases h.2 with ⟨h1, h0⟩ | ⟨g, cap, cur, rfl, hg, _⟩
  · exact ⟨none, 0, by rw [h1, h0], fun j p hj => by rw [List.length_eq_zero_iff.1 h0] at hj; simp at hj, .inl ⟨rfl, rfl⟩, fun _ => List.length_eq_zero_iff.1 h0⟩
  · refine ⟨_, cap, rfl, fun j p hj => ⟨g, 0, rfl, ?_⟩, .inr ⟨g, rfl⟩, fun h => by cases h⟩
    have hf := flat_get xs j p hj
    obtain ⟨hl, _⟩ := List.getElem?_eq_some_iff.1 hj
    have h' : w.ownsRow base 32 2 (.slice (some ⟨g, 0, none⟩) xs.length cap) xs.length (flat xs) := h
    rw [Nat.zero_add, h'.cellAt (j * 2) (by omega), h'.cellAt (j * 2 + 1) (by omega)]
    exact hf
theorem sorted_any (A : Option Addr) (c : Nat) (xs : List Pr) (w : World) (hR : Rd w A xs) (hA : At A c) (hn : xs.length ≤ 40) (h0 : A = none → xs = []) :
    Calls Try.prog 8 #[.slice A xs.length c] w fun e w' => ∃ v R, e = .returned v ∧ Own w.heap.size w' v R ∧ IsNorm xs R ∧ Below w.heap.size w w' := by
  rcases hA with ⟨rfl, rfl⟩ | ⟨g, rfl⟩
  · obtain rfl := h0 rfl
    refine (sorted_nil w).mono ?_
    rintro e w' ⟨rfl, rfl⟩
    exact ⟨_, [], rfl, World.ownsRow_nil _ _ _ _, norm_nil, Below.refl _ _⟩
  · exact sorted_of xs.length (sorts _ hn) g 0 c xs w hR rfl (by omega)
/-- the pairs of a list that was handed in, with the size of each key -/
theorem open_pairs_sized {H : Type} {enc : TypeId × Value → H} {W : World} {base : Nat} {spare : Nat → Bool} {held : Bool} {a : Option Addr} {len cap : Nat} {d : DataW H} {p : List MemPlace}
    (h : DataW.Trod enc Try.prog W base spare held 25 (.slice a len cap) d p) : ∃ ps, ArgP W a len cap ps ∧ Sized ps := by
  obtain ⟨fuel, hf⟩ := h
  obtain ⟨f0, f1, hu, o0, o1, t0, t1⟩ := fields33
  rcases open_slice_pairs Try.underlying25 hu (by kernel_rfl) o0 o1 (by rw [t0]; kernel_rfl) (by rw [t1]; kernel_rfl) hf with ⟨hcs, _⟩ | ⟨x, l, c, m, n, V0, V1, D0, D1, P0, P1, hcs, _, hl, hm, hmm, _, hc⟩
  · simp [Value.cells] at hcs
    obtain ⟨rfl, rfl, rfl⟩ := hcs
    exact ⟨[], .inl ⟨rfl, rfl, rfl, rfl⟩, sized_mem (by simp)⟩
  · simp [Value.cells] at hcs
    obtain ⟨rfl, rfl, rfl⟩ := hcs
    have hlm : len ≤ m := by rw [hmm]; split <;> omega
    refine ⟨(List.range len).map fun i => (strV (V0 i), strV (V1 i)), .inr ⟨x, rfl, by simp, hl, hm, fun j u hj => ?_⟩, sized_mem fun y hy => ?_⟩
    · obtain ⟨hlt, hu'⟩ := flat_map len _ j u hj
      obtain ⟨e0, e1, g0, g1⟩ := hc (j / 2) (by omega)
      rw [t0] at g0
      rw [t1] at g1
      obtain ⟨s0, hs0, _⟩ := DataW.trod_string Try.underlying9 g0
      obtain ⟨s1, hs1, _⟩ := DataW.trod_string Try.underlying9 g1
      simp at hs0 hs1
      rcases hu' with ⟨hm2, rfl⟩ | ⟨hm2, rfl⟩
      · have ej : j / 2 * 2 = j := by omega
        rw [ej] at e0
        rw [e0, hs0]; rfl
      · have ej : j / 2 * 2 + 1 = j := by omega
        rw [ej] at e1
        rw [e1, hs1]; rfl
    · obtain ⟨i, hi, rfl⟩ := List.mem_map.1 hy
      obtain ⟨e0, e1, g0, g1⟩ := hc i (by have := List.mem_range.1 hi; omega)
      rw [t0] at g0
      obtain ⟨s0, hs0, _, hz⟩ := DataW.trod_string Try.underlying9 g0
      simp at hs0
      rw [hs0]
      exact hz
theorem sized_take {xs : List Pr} (h : Sized xs) (k : Nat) : Sized (xs.take k) := sized_mem fun x hx => mem_sized h x (List.mem_of_mem_take hx)
theorem below_of_drew (w : World) (n : Nat) : Below w.heap.size w (w.drewN n) := ⟨rfl, rfl, rfl, Nat.le_refl _, fun _ _ => rfl⟩
theorem calls_below {f : FuncId} {args : Array Value} {w : World} {v : Value} (h : Calls Try.prog f args w fun e w' => e = .returned v ∧ ∃ n, w' = w.drewN n) : Calls Try.prog f args w fun e w' => e = .returned v ∧ Below w.heap.size w w' := by
  refine h.mono ?_
  rintro e w' ⟨rfl, n, rfl⟩
  exact ⟨rfl, below_of_drew w n⟩
theorem norm_sub {xs R : List Pr} (h : IsNorm xs R) : ∀ p ∈ R, p ∈ xs := fun p hp => by
  have := List.mem_of_getLast? ((h.mem p).1 hp)
  exact (List.mem_filter.1 this).1
theorem norm_self {R : List Pr} (h : RisesL R) : IsNorm R R := by
  refine ⟨h, fun p => ?_⟩
  have huniq : ∀ q ∈ R, ∀ r ∈ R, q.1 = r.1 → q = r := by
    clear p
    induction R with
    | nil => simp
    | cons x r ih =>
      have h' := List.pairwise_cons.1 h
      intro q hq s hs e
      rcases List.mem_cons.1 hq with e1 | hq <;> rcases List.mem_cons.1 hs with e2 | hs
      · rw [e1, e2]
      · rw [e1] at e; exact absurd e (h'.1 s hs).ne
      · rw [e2] at e; exact absurd e.symm (h'.1 q hq).ne
      · exact ih h'.2 q hq s hs e
  constructor
  · intro hp
    have hm : p ∈ withKey R p.1 := List.mem_filter.2 ⟨hp, by simp⟩
    have hne : withKey R p.1 ≠ [] := List.ne_nil_of_mem hm
    rw [List.getLast?_eq_some_getLast hne]
    have hl := List.mem_filter.1 (List.getLast_mem hne)
    congr 1
    exact huniq _ hl.1 p hp (by simpa using hl.2)
  · intro hl
    exact (List.mem_filter.1 (List.mem_of_getLast? hl)).1
theorem sub_length : ∀ (R xs : List Pr), R.Pairwise (fun p q => p ≠ q) → (∀ p ∈ R, p ∈ xs) → R.length ≤ xs.length
  | [], xs, _, _ => by simp
  | x :: r, xs, h, hs => by
    have h' := List.pairwise_cons.1 h
    have hx := hs x (by simp)
    obtain ⟨s, t, rfl⟩ := List.append_of_mem hx
    have hr := sub_length r (s ++ t) h'.2 (fun p hp => by
      rcases List.mem_append.1 (hs p (List.mem_cons_of_mem _ hp)) with h1 | h1
      · exact List.mem_append.2 (.inl h1)
      · rcases List.mem_cons.1 h1 with h2 | h2
        · exact absurd h2.symm (h'.1 p hp)
        · exact List.mem_append.2 (.inr h2))
    simp only [List.length_cons, List.length_append] at *
    omega
theorem norm_length {xs R : List Pr} (h : IsNorm xs R) : R.length ≤ xs.length :=
  sub_length R xs (h.rises.imp (fun hpq e => by subst e; exact hpq.ne rfl)) (norm_sub h)
end Go.Proofs.Ytfmbikmpobieoaa
