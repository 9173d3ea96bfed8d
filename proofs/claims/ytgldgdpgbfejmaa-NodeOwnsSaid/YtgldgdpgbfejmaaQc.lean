/- One pair put into the sorted list of a list: it is the sorted list of the list with that pair behind it. -/
import Derived.Test.YtgldgdpgbfejmaaQb
namespace Go.Proofs.Ytgldgdpgbfejmaa
open Go.RowKit Go.Lib
set_option linter.unusedVariables false
set_option linter.unusedSimpArgs false
/-- a pair, ahead of the first greater key -/
def insK (p : Pr) : List Pr → List Pr
  | [] => [p]
  | q :: r => if ltB p.1 q.1 = true then p :: q :: r else q :: insK p r
/-- with a pair -/
def putK (xs : List Pr) (p : Pr) : List Pr := insK p (dropK xs p.1)
theorem ins_mem (p x : Pr) (D : List Pr) : x ∈ insK p D ↔ x = p ∨ x ∈ D := by
  induction D with
  | nil => simp [insK]
  | cons q r ih =>
    unfold insK
    split
    · simp
    · simp only [List.mem_cons, ih]
      constructor
      · rintro (h | h | h)
        · exact .inr (.inl h)
        · exact .inl h
        · exact .inr (.inr h)
      · rintro (h | h | h)
        · exact .inr (.inl h)
        · exact .inl h
        · exact .inr (.inr h)
theorem ltB_iff (a b : ByteArray) : ltB a b = true ↔ Lt a b := by unfold ltB Lt; simp
theorem ins_rises (p : Pr) (D : List Pr) (h : RisesL D) (hk : ∀ x ∈ D, x.1 ≠ p.1) : RisesL (insK p D) := by
  induction D with
  | nil => simp [insK, RisesL]
  | cons q r ih =>
    have h' := List.pairwise_cons.1 h
    unfold insK
    split
    · rename_i hl
      have hpq := (ltB_iff _ _).1 hl
      unfold RisesL
      rw [List.pairwise_cons]
      refine ⟨fun x hx => ?_, h⟩
      rcases List.mem_cons.1 hx with rfl | hx
      · exact hpq
      · exact hpq.trans (h'.1 x hx)
    · rename_i hl
      have hqp : Lt q.1 p.1 := by
        have h1 : Le q.1 p.1 := not_lt_le (fun hc => hl ((ltB_iff _ _).2 hc))
        rcases h1.lt_or_eq with h1 | h1
        · exact h1
        · exact absurd h1 (hk q (by simp))
      unfold RisesL
      rw [List.pairwise_cons]
      refine ⟨fun x hx => ?_, ih h'.2 (fun x hx => hk x (List.mem_cons_of_mem _ hx))⟩
      rcases (ins_mem p x r).1 hx with rfl | hx
      · exact hqp
      · exact h'.1 x hx
theorem drop_mem (xs : List Pr) (k : ByteArray) (x : Pr) : x ∈ dropK xs k ↔ x ∈ xs ∧ x.1 ≠ k := by
  unfold dropK
  rw [List.mem_filter]
  simp only [Bool.not_eq_true', beq_eq_false_iff_ne, ne_eq]
  constructor
  · rintro ⟨h1, h2⟩; exact ⟨h1, fun e => h2 (by rw [e])⟩
  · rintro ⟨h1, h2⟩; exact ⟨h1, fun e => h2 (bytes_ext (by rw [ByteArray.toList_eq, ByteArray.toList_eq] at e; exact e))⟩
theorem drop_rises (xs : List Pr) (k : ByteArray) (h : RisesL xs) : RisesL (dropK xs k) := List.Pairwise.filter _ h
theorem norm_put {ys R : List Pr} (p : Pr) (h : IsNorm ys R) : IsNorm (ys ++ [p]) (putK R p) := by
  constructor
  · exact ins_rises p _ (drop_rises R p.1 h.rises) (fun x hx => ((drop_mem R p.1 x).1 hx).2)
  · intro x
    unfold putK
    rw [ins_mem, drop_mem, h.mem x]
    have e : withKey (ys ++ [p]) x.1 = withKey ys x.1 ++ (if p.1 = x.1 then [p] else []) := by
      unfold withKey
      rw [List.filter_append]
      by_cases hp : p.1 = x.1 <;> simp [hp]
    rw [e]
    by_cases hp : p.1 = x.1
    · rw [if_pos hp, List.getLast?_append]
      simp only [List.getLast?_singleton, Option.some_or, Option.some.injEq]
      constructor
      · rintro (h1 | ⟨_, h2⟩)
        · exact h1.symm
        · exact absurd hp.symm h2
      · intro h1; exact .inl h1.symm
    · rw [if_neg hp, List.append_nil]
      constructor
      · rintro (h1 | ⟨h1, _⟩)
        · subst h1; exact absurd rfl hp
        · exact h1
      · intro h1; exact .inr ⟨h1, fun e => hp e.symm⟩
theorem norm_nil : IsNorm [] [] := ⟨List.Pairwise.nil, fun p => by simp [withKey]⟩
end Go.Proofs.Ytgldgdpgbfejmaa
