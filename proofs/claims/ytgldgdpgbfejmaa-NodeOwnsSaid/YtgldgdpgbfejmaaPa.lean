/- Pairs in memory; what comparing two keys returns; the functions by which lists of pairs are sorted and searched. -/
import Derived.Test.YtgldgdpgbfejmaaTf
import Derived.Lib.Bytealg
import Derived.Laws.Externs
namespace Go.Proofs.Ytgldgdpgbfejmaa
open Go.RowKit Go.Lib
set_option linter.unusedVariables false
set_option linter.unusedSimpArgs false

/-- how two keys compare -/
def cmpS (a b : ByteArray) : Int := compareBytes a.data.toList b.data.toList
theorem bcompare (a b : ByteArray) (w : World) : Calls Try.prog 83 #[.string a, .string b] w fun e w' => e = .returned (.int .i64 (cmpS a b)) ∧ w = w' := by
  go_enter Try.func83, Try.ntmps83
  go_wp2
  rw [run_callFunc_extern Try.func89 (by kernel_rfl) (by kernel_rfl) (by kernel_rfl) (e := Extern.BytealgCompare.compare) (by kernel_rfl), run_compareString]
  go_wp2
  go_ret
  exact ⟨rfl, rfl⟩
theorem compare (a b : ByteArray) (w : World) : Calls Try.prog 78 #[.string a, .string b] w fun e w' => e = .returned (.int .i64 (cmpS a b)) ∧ w = w' := by
  go_enter Try.func78, Try.ntmps78
  go_wp2_with (go_at_call 83; refine (bcompare a b _).mono ?_; rintro e w' ⟨rfl, rfl⟩)
  go_ret
  exact ⟨rfl, rfl⟩
/-- a key and its value -/
abbrev Pr := ByteArray × ByteArray
/-- a pair as a value -/
def Pr.v (p : Pr) : Value := .agg #[.string p.1, .string p.2]
/-- pairs as the cells of a row -/
def flat (xs : List Pr) : List Value := xs.flatMap fun p => [.string p.1, .string p.2]
theorem flat_length (xs : List Pr) : (flat xs).length = xs.length * 2 := by
  induction xs with
  | nil => rfl
  | cons x xs ih => simp only [flat, List.flatMap_cons, List.length_append, List.length_cons, List.length_nil] at *; omega
theorem flat_append (xs ys : List Pr) : flat (xs ++ ys) = flat xs ++ flat ys := by simp [flat]
theorem flat_get (xs : List Pr) (j : Nat) (p : Pr) (h : xs[j]? = some p) : (flat xs)[j * 2]? = some (.string p.1) ∧ (flat xs)[j * 2 + 1]? = some (.string p.2) := by
  induction xs generalizing j with
  | nil => simp at h
  | cons x xs ih =>
    cases j with
    | zero => simp at h; subst h; simp [flat]
    | succ j =>
      simp at h
      have := ih j h
      rw [show (j + 1) * 2 = j * 2 + 2 by omega, show j * 2 + 2 + 1 = (j * 2 + 1) + 2 by omega]
      simpa [flat] using this
theorem flat_set (xs : List Pr) (j : Nat) (p : Pr) (h : j < xs.length) : ((flat xs).set (j * 2) (.string p.1)).set (j * 2 + 1) (.string p.2) = flat (xs.set j p) := by
  induction xs generalizing j with
  | nil => simp at h
  | cons x xs ih =>
    cases j with
    | zero => simp [flat]
    | succ j =>
      have := ih j (by simpa using h)
      rw [show (j + 1) * 2 = j * 2 + 2 by omega, show j * 2 + 2 + 1 = (j * 2 + 1) + 2 by omega]
      simpa [flat] using this

/-- the function that Find compares by -/
theorem cmp48 (p : Pr) (k : ByteArray) (w : World) : Calls Try.prog 77 #[p.v, .string k] w fun e w' => e = .returned (.int .i64 (cmpS p.1 k)) ∧ Below w.heap.size w w' := by
  unfold Pr.v
  go_enter Try.func77, Try.ntmps77
  go_wp2_with (go_at_call 78; refine (compare p.1 k _).mono ?_; rintro e w' ⟨rfl, rfl⟩)
  go_ret
  exact ⟨rfl, (Below.refl _ w).alloc (Nat.le_refl _) _⟩

/-- the slice that begins at A has these pairs -/
def Rd (w : World) (A : Option Addr) (xs : List Pr) : Prop :=
  ∀ j p, xs[j]? = some p → ∃ g off, A = some ⟨g, off, none⟩ ∧ w.cell? ⟨g, off + j * 2, none⟩ = some (.string p.1) ∧ w.cell? ⟨g, off + j * 2 + 1, none⟩ = some (.string p.2)
theorem Rd.below {w w' : World} {A : Option Addr} {xs : List Pr} (h : Rd w A xs) (hb : Below w.heap.size w w') : Rd w' A xs := fun j p hj => by
  obtain ⟨g, off, e, h1, h2⟩ := h j p hj
  exact ⟨g, off, e, (hb.cell (World.block_lt_of_cell? w _ h1)).trans h1, (hb.cell (World.block_lt_of_cell? w _ h2)).trans h2⟩
/-- a row of pairs that the call owns -/
def Own (base : Nat) (w : World) (v : Value) (xs : List Pr) : Prop := w.ownsRow base 27 2 v xs.length (flat xs)
theorem Own.rd {base : Nat} {w : World} {v : Value} {xs : List Pr} (h : Own base w v xs) : ∃ A c, v = .slice A xs.length c ∧ Rd w A xs ∧ (A = none ∨ ∃ g, A = some ⟨g, 0, none⟩) := by
  rcases h.2 with ⟨h1, h0⟩ | ⟨g, cap, cur, rfl, hg, _⟩
  · exact ⟨none, 0, by rw [h1, h0], fun j p hj => by rw [List.length_eq_zero_iff.1 h0] at hj; simp at hj, .inl rfl⟩
  · refine ⟨_, cap, rfl, fun j p hj => ⟨g, 0, rfl, ?_⟩, .inr ⟨g, rfl⟩⟩
    have hf := flat_get xs j p hj
    obtain ⟨hl, _⟩ := List.getElem?_eq_some_iff.1 hj
    have h' : w.ownsRow base 27 2 (.slice (some ⟨g, 0, none⟩) xs.length cap) xs.length (flat xs) := h
    rw [Nat.zero_add, h'.cellAt (j * 2) (by omega), h'.cellAt (j * 2 + 1) (by omega)]
    exact hf
end Go.Proofs.Ytgldgdpgbfejmaa
