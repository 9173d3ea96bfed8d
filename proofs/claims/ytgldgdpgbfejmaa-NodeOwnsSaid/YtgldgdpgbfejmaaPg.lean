/- Lists that were handed in; few: a copy of at most forty pairs; own: pairs as the reference has them. -/
import Derived.Test.YtgldgdpgbfejmaaPe
namespace Go.Proofs.Ytgldgdpgbfejmaa
open Go.RowKit Go.Lib
set_option linter.unusedVariables false
set_option linter.unusedSimpArgs false
/-- a slice of pairs that was handed in -/
def ArgP (w : World) (a : Option Addr) (len cap : Nat) (ps : List Pr) : Prop :=
  (a = none ∧ len = 0 ∧ cap = 0 ∧ ps = []) ∨
  ∃ x, a = some x ∧ ps.length = len ∧ len ≤ cap ∧ cap ≤ maxLen ∧ ∀ j u, (flat ps)[j]? = some u → w.cell? (x.add j) = some u
theorem ArgP.below {w w' : World} {a : Option Addr} {len cap : Nat} {ps : List Pr} (h : ArgP w a len cap ps) (hb : Below w.heap.size w w') : ArgP w' a len cap ps := by
  rcases h with h | ⟨x, rfl, h1, h2, h3, h4⟩
  · exact .inl h
  · refine .inr ⟨x, rfl, h1, h2, h3, fun j u hj => ?_⟩
    have := h4 j u hj
    exact (hb.cell (World.block_lt_of_cell? w _ this)).trans this
theorem flat_take (xs : List Pr) (k : Nat) : flat (xs.take k) = (flat xs).take (k * 2) := by
  induction xs generalizing k with
  | nil => simp [flat]
  | cons x xs ih =>
    cases k with
    | zero => simp [flat]
    | succ k =>
      have := ih k
      rw [List.take_succ_cons, show (k + 1) * 2 = k * 2 + 2 by omega]
      simp only [flat, List.flatMap_cons] at *
      rw [this]
      rfl
/-- what a copy of at most forty of them is -/
def FewPost (ps : List Pr) (w : World) (e : Ending) (w' : World) : Prop :=
  ∃ g c, e = .returned (.slice (some ⟨g, 0, none⟩) (ps.take 40).length c) ∧ Own w.heap.size w' (.slice (some ⟨g, 0, none⟩) (ps.take 40).length c) (ps.take 40) ∧ Below w.heap.size w w'
/-- a row of pairs of the reference that the call owns -/
def OwnR (base : Nat) (w : World) (v : Value) (xs : List Pr) : Prop := w.ownsRow base 81 2 v xs.length (flat xs)
theorem OwnR.rd {base : Nat} {w : World} {v : Value} {xs : List Pr} (h : OwnR base w v xs) : ∃ A c, v = .slice A xs.length c ∧ Rd w A xs := by
  rcases h.2 with ⟨h1, h0⟩ | ⟨g, cap, cur, rfl, hg, _⟩
  · exact ⟨none, 0, by rw [h1, h0], fun j p hj => by rw [List.length_eq_zero_iff.1 h0] at hj; simp at hj⟩
  · refine ⟨_, cap, rfl, fun j p hj => ⟨g, 0, rfl, ?_⟩⟩
    have hf := flat_get xs j p hj
    obtain ⟨hl, _⟩ := List.getElem?_eq_some_iff.1 hj
    have h' : w.ownsRow base 81 2 (.slice (some ⟨g, 0, none⟩) xs.length cap) xs.length (flat xs) := h
    rw [Nat.zero_add, h'.cellAt (j * 2) (by omega), h'.cellAt (j * 2 + 1) (by omega)]
    exact hf
theorem info40 : (Try.prog.info? 81).map (fun i => (i.zero, i.size, i.bytes)) = some (some (.agg #[.string ByteArray.empty, .string ByteArray.empty]), 2, 32) := by kernel_rfl
end Go.Proofs.Ytgldgdpgbfejmaa
