/- Whether a list rises, as package pair and as the reference tell it. -/
import Derived.Test.YtfmbikmpobieoaaMP
namespace Go.Proofs.Ytfmbikmpobieoaa
open Go.RowKit Go.Lib
set_option linter.unusedVariables false
set_option maxRecDepth 100000
set_option maxRecDepth 100000
set_option linter.unusedSimpArgs false
theorem bytesLess_eq (x y : List UInt8) : Op.bytesLess x y = decide (compareBytes x y < 0) := by
  induction x generalizing y with
  | nil => cases y <;> simp [Op.bytesLess, compareBytes]
  | cons a x ih =>
    cases y with
    | nil => simp [Op.bytesLess, compareBytes]
    | cons b y =>
      simp only [Op.bytesLess, compareBytes, ih]
      by_cases h1 : a < b
      · simp [h1]
      · by_cases h2 : b < a
        · have : ¬ a = b := fun e => UInt8.ne_of_lt h2 e.symm
          simp [h1, h2, this]
        · have : a = b := UInt8.le_antisymm (UInt8.not_lt.1 h2) (UInt8.not_lt.1 h1)
          simp [h1, h2, this]
theorem bytesLess_ltB (a b : ByteArray) : Op.bytesLess a.toList b.toList = ltB a b := by
  rw [bytesLess_eq, ByteArray.toList_eq, ByteArray.toList_eq]; rfl
theorem geqS (a b : ByteArray) (w : World) : (binOp .geq 9 (.string a) (.string b)).run Try.prog w = .ok (.bool (!ltB a b)) w := by
  have h : binOp .geq 9 (.string a) (.string b) = pure (.bool (!Op.bytesLess a.toList b.toList)) := by simp [binOp, Op.stringOp]
  rw [h, bytesLess_ltB]; rfl
/-- whether each key is less than the next one -/
def risesB : List Pr → Bool
  | x :: y :: r => ltB x.1 y.1 && risesB (y :: r)
  | _ => true
theorem rises_drop (xs : List Pr) (j : Nat) (h : j + 1 < xs.length) : risesB (xs.drop j) = (ltB (pat xs j).1 (pat xs (j + 1)).1 && risesB (xs.drop (j + 1))) := by
  have e : xs.drop j = pat xs j :: pat xs (j + 1) :: xs.drop (j + 2) := by
    rw [List.drop_eq_getElem_cons (by omega), List.drop_eq_getElem_cons h]
    simp [pat, h, (by omega : j < xs.length)]
  have e2 : xs.drop (j + 1) = pat xs (j + 1) :: xs.drop (j + 2) := by
    rw [List.drop_eq_getElem_cons h]
    simp [pat, h]
  rw [e, e2]
  rfl
theorem rises_end (xs : List Pr) (j : Nat) (h : xs.length ≤ j + 1) : risesB (xs.drop j) = true := by
  have hl : (xs.drop j).length ≤ 1 := by rw [List.length_drop]; omega
  match hd : xs.drop j, hl with
  | [], _ => rfl
  | [x], _ => rfl
theorem risesB_iff (xs : List Pr) : risesB xs = true ↔ RisesL xs := by
  induction xs with
  | nil => simp [risesB, RisesL]
  | cons x r ih =>
    cases r with
    | nil => simp [risesB, RisesL]
    | cons y r =>
      have hlt : ltB x.1 y.1 = true ↔ Lt x.1 y.1 := by unfold ltB Lt; simp
      simp only [risesB, Bool.and_eq_true, hlt, ih]
      unfold RisesL
      constructor
      · rintro ⟨h1, h2⟩
        rw [List.pairwise_cons]
        refine ⟨fun q hq => ?_, h2⟩
        rcases List.mem_cons.1 hq with rfl | hq
        · exact h1
        · exact h1.trans ((List.pairwise_cons.1 h2).1 q hq)
      · intro h
        rw [List.pairwise_cons] at h
        exact ⟨h.1 y (by simp), h.2⟩

end Go.Proofs.Ytfmbikmpobieoaa
/- The reference's Rises and Drop. -/
namespace Go.Proofs.Ytfmbikmpobieoaa
open Go.RowKit Go.Lib
set_option linter.unusedVariables false
set_option maxRecDepth 100000
set_option maxRecDepth 100000
set_option linter.unusedSimpArgs false
/-- no key is longer than a string can be -/
def Sized (xs : List Pr) : Prop := ∀ j, (pat xs j).1.size ≤ maxLen
/-- those with another key -/
def dropK (xs : List Pr) (k : ByteArray) : List Pr := xs.filter fun p => !(p.1.toList == k.toList)
theorem drop_take (xs : List Pr) (k : ByteArray) (j : Nat) (h : j < xs.length) : dropK (xs.take (j + 1)) k = dropK (xs.take j) k ++ (if ((pat xs j).1.toList == k.toList) = true then [] else [pat xs j]) := by
  have et : xs.take (j + 1) = xs.take j ++ [pat xs j] := by
    rw [List.take_succ_eq_append_getElem h]
    simp [pat, h]
  unfold dropK
  rw [et, List.filter_append]
  congr 1
  by_cases hk : ((pat xs j).1.toList == k.toList) = true
  · rw [if_pos hk]; simp [hk]
  · rw [if_neg hk]; simp at hk; simp [hk]
theorem drop_le (xs : List Pr) (k : ByteArray) (j : Nat) : (dropK (xs.take j) k).length ≤ j := Nat.le_trans (List.length_filter_le _ _) (by rw [List.length_take]; omega)
end Go.Proofs.Ytfmbikmpobieoaa
/- One pair put into the sorted list of a list: it is the sorted list of the list with that pair behind it. -/
namespace Go.Proofs.Ytfmbikmpobieoaa
open Go.RowKit Go.Lib
set_option linter.unusedVariables false
set_option maxRecDepth 100000
set_option maxRecDepth 100000
set_option linter.unusedSimpArgs false
/-- a pair, ahead of the first greater key -/
def insK (p : Pr) : List Pr → List Pr
  | [] => [p]
  | q :: r => if ltB p.1 q.1 = true then p :: q :: r else q :: insK p r
/-- with a pair -/
def putK (xs : List Pr) (p : Pr) : List Pr := insK p (dropK xs p.1)
theorem ins_mem (p x : Pr) (D : List Pr) : x ∈ insK p D ↔ x = p ∨ x ∈ D := by
  induction D with
  | nil => simp [insK]
  | cons q r ih =>
    unfold insK
    split
    · simp
    · simp only [List.mem_cons, ih]
      constructor
      · rintro (h | h | h)
        · exact .inr (.inl h)
        · exact .inl h
        · exact .inr (.inr h)
      · rintro (h | h | h)
        · exact .inr (.inl h)
        · exact .inl h
        · exact .inr (.inr h)
theorem ltB_iff (a b : ByteArray) : ltB a b = true ↔ Lt a b := by unfold ltB Lt; simp
theorem ins_rises (p : Pr) (D : List Pr) (h : RisesL D) (hk : ∀ x ∈ D, x.1 ≠ p.1) : RisesL (insK p D) := by
  induction D with
  | nil => simp [insK, RisesL]
  | cons q r ih =>
    have h' := List.pairwise_cons.1 h
    unfold insK
    split
    · rename_i hl
      have hpq := (ltB_iff _ _).1 hl
      unfold RisesL
      rw [List.pairwise_cons]
      refine ⟨fun x hx => ?_, h⟩
      rcases List.mem_cons.1 hx with rfl | hx
      · exact hpq
      · exact hpq.trans (h'.1 x hx)
    · rename_i hl
      have hqp : Lt q.1 p.1 := by
        have h1 : Le q.1 p.1 := not_lt_le (fun hc => hl ((ltB_iff _ _).2 hc))
        rcases h1.lt_or_eq with h1 | h1
        · exact h1
        · exact absurd h1 (hk q (by simp))
      unfold RisesL
      rw [List.pairwise_cons]
      refine ⟨fun x hx => ?_, ih h'.2 (fun x hx => hk x (List.mem_cons_of_mem _ hx))⟩
      rcases (ins_mem p x r).1 hx with rfl | hx
      · exact hqp
      · exact h'.1 x hx
theorem drop_mem (xs : List Pr) (k : ByteArray) (x : Pr) : x ∈ dropK xs k ↔ x ∈ xs ∧ x.1 ≠ k := by
  unfold dropK
  rw [List.mem_filter]
  simp only [Bool.not_eq_true', beq_eq_false_iff_ne, ne_eq]
  constructor
  · rintro ⟨h1, h2⟩; exact ⟨h1, fun e => h2 (by rw [e])⟩
  · rintro ⟨h1, h2⟩; exact ⟨h1, fun e => h2 (bytes_ext (by rw [ByteArray.toList_eq, ByteArray.toList_eq] at e; exact e))⟩
theorem drop_rises (xs : List Pr) (k : ByteArray) (h : RisesL xs) : RisesL (dropK xs k) := List.Pairwise.filter _ h
theorem norm_put {ys R : List Pr} (p : Pr) (h : IsNorm ys R) : IsNorm (ys ++ [p]) (putK R p) := by
  constructor
  · exact ins_rises p _ (drop_rises R p.1 h.rises) (fun x hx => ((drop_mem R p.1 x).1 hx).2)
  · intro x
    unfold putK
    rw [ins_mem, drop_mem, h.mem x]
    have e : withKey (ys ++ [p]) x.1 = withKey ys x.1 ++ (if p.1 = x.1 then [p] else []) := by
      unfold withKey
      rw [List.filter_append]
      by_cases hp : p.1 = x.1 <;> simp [hp]
    rw [e]
    by_cases hp : p.1 = x.1
    · rw [if_pos hp, List.getLast?_append]
      simp only [List.getLast?_singleton, Option.some_or, Option.some.injEq]
      constructor
      · rintro (h1 | ⟨_, h2⟩)
        · exact h1.symm
        · exact absurd hp.symm h2
      · intro h1; exact .inl h1.symm
    · rw [if_neg hp, List.append_nil]
      constructor
      · rintro (h1 | ⟨h1, _⟩)
        · subst h1; exact absurd rfl hp
        · exact h1
      · intro h1; exact .inr ⟨h1, fun e => hp e.symm⟩
theorem norm_nil : IsNorm [] [] := ⟨List.Pairwise.nil, fun p => by simp [withKey]⟩
end Go.Proofs.Ytfmbikmpobieoaa
/- The reference's Put. -/
namespace Go.Proofs.Ytfmbikmpobieoaa
open Go.RowKit Go.Lib
set_option linter.unusedVariables false
set_option maxRecDepth 100000
set_option maxRecDepth 100000
set_option linter.unusedSimpArgs false
theorem insK_at (p : Pr) (D : List Pr) (j : Nat) (h : j < D.length) : insK p (D.drop j) = if ltB p.1 (pat D j).1 = true then p :: pat D j :: D.drop (j + 1) else pat D j :: insK p (D.drop (j + 1)) := by
  have e : D.drop j = pat D j :: D.drop (j + 1) := by
    rw [List.drop_eq_getElem_cons h]; simp [pat, h]
  rw [e]; rfl
theorem insK_end (p : Pr) (D : List Pr) (j : Nat) (h : D.length ≤ j) : insK p (D.drop j) = [p] := by
  rw [List.drop_of_length_le h]; rfl
theorem drop_at (D : List Pr) (j : Nat) (h : j < D.length) : D.drop j = pat D j :: D.drop (j + 1) := by
  rw [List.drop_eq_getElem_cons h]; simp [pat, h]
/-- what is in out when j of D have come by -/
def OutP (p : Pr) (D : List Pr) (j : Nat) (b : Bool) (X : List Pr) : Prop :=
  X ++ (if b = true then D.drop j else insK p (D.drop j)) = insK p D ∧ X.length ≤ j + b.toNat
theorem OutP.start (p : Pr) (D : List Pr) : OutP p D 0 false [] := ⟨by simp, by simp⟩
theorem OutP.in {p : Pr} {D : List Pr} {j : Nat} {X : List Pr} (h : OutP p D j false X) (hj : j < D.length) (hl : ltB p.1 (pat D j).1 = true) : OutP p D (j + 1) true (X ++ [p] ++ [pat D j]) := by
  obtain ⟨h, hX⟩ := h
  simp at hX
  rw [if_neg (by simp), insK_at p D j hj, if_pos hl] at h
  exact ⟨by rw [← h]; simp, by simp; omega⟩
theorem OutP.on {p : Pr} {D : List Pr} {j : Nat} {X : List Pr} (h : OutP p D j false X) (hj : j < D.length) (hl : ltB p.1 (pat D j).1 = false) : OutP p D (j + 1) false (X ++ [pat D j]) := by
  obtain ⟨h, hX⟩ := h
  simp at hX
  rw [if_neg (by simp), insK_at p D j hj, if_neg (by rw [hl]; simp)] at h
  exact ⟨by rw [← h]; simp, by simp; omega⟩
theorem OutP.next {p : Pr} {D : List Pr} {j : Nat} {X : List Pr} (h : OutP p D j true X) (hj : j < D.length) : OutP p D (j + 1) true (X ++ [pat D j]) := by
  obtain ⟨h, hX⟩ := h
  simp at hX
  rw [if_pos rfl, drop_at D j hj] at h
  exact ⟨by rw [← h]; simp, by simp; omega⟩
theorem OutP.done {p : Pr} {D : List Pr} {j : Nat} {X : List Pr} (h : OutP p D j true X) (hj : D.length ≤ j) : X = insK p D := by
  rw [← h.1, if_pos rfl, List.drop_of_length_le hj]; simp
theorem OutP.last {p : Pr} {D : List Pr} {j : Nat} {X : List Pr} (h : OutP p D j false X) (hj : D.length ≤ j) : X ++ [p] = insK p D := by
  rw [← h.1, if_neg (by simp), insK_end p D j hj]
theorem sized_drop {xs : List Pr} (h : Sized xs) (k : ByteArray) : Sized (dropK xs k) := by
  intro j
  by_cases hj : j < (dropK xs k).length
  · have hm : (pat (dropK xs k) j) ∈ dropK xs k := by unfold pat; rw [List.getElem?_eq_getElem hj]; exact List.getElem_mem _
    have := (List.mem_filter.1 hm).1
    obtain ⟨i, hi, e⟩ := List.getElem_of_mem this
    have := h i
    unfold pat at this
    rw [List.getElem?_eq_getElem hi] at this
    simpa [e] using this
  · unfold pat
    rw [List.getElem?_eq_none (by omega)]
    simp [maxLen]
end Go.Proofs.Ytfmbikmpobieoaa
/- The reference's Sorted. -/
namespace Go.Proofs.Ytfmbikmpobieoaa
open Go.RowKit Go.Lib
set_option linter.unusedVariables false
set_option maxRecDepth 100000
set_option maxRecDepth 100000
set_option linter.unusedSimpArgs false
theorem sized_mem {L : List Pr} (h : ∀ x ∈ L, x.1.size ≤ maxLen) : Sized L := by
  intro j
  by_cases hj : j < L.length
  · have hm : pat L j ∈ L := by unfold pat; rw [List.getElem?_eq_getElem hj]; exact List.getElem_mem _
    exact h _ hm
  · unfold pat
    rw [List.getElem?_eq_none (by omega)]
    simp [maxLen]
theorem mem_sized {L : List Pr} (h : Sized L) : ∀ x ∈ L, x.1.size ≤ maxLen := by
  intro x hx
  obtain ⟨i, hi, e⟩ := List.getElem_of_mem hx
  have := h i
  unfold pat at this
  rw [List.getElem?_eq_getElem hi] at this
  simpa [e] using this
theorem insK_length (p : Pr) (D : List Pr) : (insK p D).length = D.length + 1 := by
  induction D with
  | nil => rfl
  | cons q r ih => unfold insK; split <;> simp [ih]
theorem putK_length (xs : List Pr) (p : Pr) : (putK xs p).length ≤ xs.length + 1 := by
  unfold putK
  rw [insK_length]
  have : (dropK xs p.1).length ≤ xs.length := List.length_filter_le _ _
  omega
theorem sized_put {xs : List Pr} {p : Pr} (h : Sized xs) (hp : p.1.size ≤ maxLen) : Sized (putK xs p) := by
  refine sized_mem fun x hx => ?_
  unfold putK at hx
  rcases (ins_mem p x _).1 hx with rfl | hx
  · exact hp
  · exact mem_sized h x ((drop_mem xs p.1 x).1 hx).1
theorem take_pat (xs : List Pr) (j : Nat) (h : j < xs.length) : xs.take (j + 1) = xs.take j ++ [pat xs j] := by
  rw [List.take_succ_eq_append_getElem h]
  simp [pat, h]
end Go.Proofs.Ytfmbikmpobieoaa
