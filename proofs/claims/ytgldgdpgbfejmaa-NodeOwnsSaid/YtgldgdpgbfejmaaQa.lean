/- Whether a list rises, as package pair and as the reference tell it. -/
import Derived.Test.YtgldgdpgbfejmaaPz
import Derived.Test.YtgldgdpgbfejmaaPq
namespace Go.Proofs.Ytgldgdpgbfejmaa
open Go.RowKit Go.Lib
set_option linter.unusedVariables false
set_option linter.unusedSimpArgs false
theorem bytesLess_eq (x y : List UInt8) : Op.bytesLess x y = decide (compareBytes x y < 0) := by
  induction x generalizing y with
  | nil => cases y <;> simp [Op.bytesLess, compareBytes]
  | cons a x ih =>
    cases y with
    | nil => simp [Op.bytesLess, compareBytes]
    | cons b y =>
      simp only [Op.bytesLess, compareBytes, ih]
      by_cases h1 : a < b
      · simp [h1]
      · by_cases h2 : b < a
        · have : ¬ a = b := fun e => UInt8.ne_of_lt h2 e.symm
          simp [h1, h2, this]
        · have : a = b := UInt8.le_antisymm (UInt8.not_lt.1 h2) (UInt8.not_lt.1 h1)
          simp [h1, h2, this]
theorem bytesLess_ltB (a b : ByteArray) : Op.bytesLess a.toList b.toList = ltB a b := by
  rw [bytesLess_eq, ByteArray.toList_eq, ByteArray.toList_eq]; rfl
theorem geqS (a b : ByteArray) (w : World) : (binOp .geq 9 (.string a) (.string b)).run Try.prog w = .ok (.bool (!ltB a b)) w := by
  have h : binOp .geq 9 (.string a) (.string b) = pure (.bool (!Op.bytesLess a.toList b.toList)) := by simp [binOp, Op.stringOp]
  rw [h, bytesLess_ltB]; rfl
/-- whether each key is less than the next one -/
def risesB : List Pr → Bool
  | x :: y :: r => ltB x.1 y.1 && risesB (y :: r)
  | _ => true
theorem rises_drop (xs : List Pr) (j : Nat) (h : j + 1 < xs.length) : risesB (xs.drop j) = (ltB (pat xs j).1 (pat xs (j + 1)).1 && risesB (xs.drop (j + 1))) := by
  have e : xs.drop j = pat xs j :: pat xs (j + 1) :: xs.drop (j + 2) := by
    rw [List.drop_eq_getElem_cons (by omega), List.drop_eq_getElem_cons h]
    simp [pat, h, (by omega : j < xs.length)]
  have e2 : xs.drop (j + 1) = pat xs (j + 1) :: xs.drop (j + 2) := by
    rw [List.drop_eq_getElem_cons h]
    simp [pat, h]
  rw [e, e2]
  rfl
theorem rises_end (xs : List Pr) (j : Nat) (h : xs.length ≤ j + 1) : risesB (xs.drop j) = true := by
  have hl : (xs.drop j).length ≤ 1 := by rw [List.length_drop]; omega
  match hd : xs.drop j, hl with
  | [], _ => rfl
  | [x], _ => rfl
theorem risesB_iff (xs : List Pr) : risesB xs = true ↔ RisesL xs := by
  induction xs with
  | nil => simp [risesB, RisesL]
  | cons x r ih =>
    cases r with
    | nil => simp [risesB, RisesL]
    | cons y r =>
      have hlt : ltB x.1 y.1 = true ↔ Lt x.1 y.1 := by unfold ltB Lt; simp
      simp only [risesB, Bool.and_eq_true, hlt, ih]
      unfold RisesL
      constructor
      · rintro ⟨h1, h2⟩
        rw [List.pairwise_cons]
        refine ⟨fun q hq => ?_, h2⟩
        rcases List.mem_cons.1 hq with rfl | hq
        · exact h1
        · exact h1.trans ((List.pairwise_cons.1 h2).1 q hq)
      · intro h
        rw [List.pairwise_cons] at h
        exact ⟨h.1 y (by simp), h.2⟩

end Go.Proofs.Ytgldgdpgbfejmaa
