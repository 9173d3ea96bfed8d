/- Put and Drop of package pair. -/
import Derived.Test.YtgldgdpgbfejmaaRb
namespace Go.Proofs.Ytgldgdpgbfejmaa
open Go.RowKit Go.Lib
set_option linter.unusedVariables false
set_option linter.unusedSimpArgs false
theorem lessK_cons (q : Pr) (r : List Pr) (k : ByteArray) : lessK (q :: r) k = if ltB q.1 k = true then q :: lessK r k else [] := by
  unfold lessK
  rw [posK]
  split <;> simp
theorem isK_cons_lt (q : Pr) (r : List Pr) (k : ByteArray) (h : ltB q.1 k = true) : isK (q :: r) k = isK r k := by
  unfold isK
  rw [posK, if_pos h, pat_succ]
  simp
theorem isK_cons_ge (q : Pr) (r : List Pr) (k : ByteArray) (h : ¬ ltB q.1 k = true) : isK (q :: r) k = decide (q.1 = k) := by
  unfold isK
  rw [posK, if_neg h, pat_zero]
  simp
theorem moreK_lt (q : Pr) (r : List Pr) (k : ByteArray) (h : ltB q.1 k = true) : moreK (q :: r) k = moreK r k := by
  unfold moreK
  rw [isK_cons_lt q r k h, posK, if_pos h, Nat.add_right_comm, List.drop_succ_cons]
theorem moreK_eq (q : Pr) (r : List Pr) (k : ByteArray) (h : ¬ ltB q.1 k = true) (he : q.1 = k) : moreK (q :: r) k = r := by
  unfold moreK
  rw [isK_cons_ge q r k h, posK, if_neg h]
  simp [he]
theorem moreK_gt (q : Pr) (r : List Pr) (k : ByteArray) (h : ¬ ltB q.1 k = true) (he : ¬ q.1 = k) : moreK (q :: r) k = q :: r := by
  unfold moreK
  rw [isK_cons_ge q r k h, posK, if_neg h]
  simp [he]
theorem ltB_not_ne {a b : ByteArray} (h : ¬ ltB a b = true) (he : ¬ a = b) : Lt b a := by
  have h1 : Le b a := not_lt_le (fun hc => h ((ltB_iff _ _).2 hc))
  rcases h1.lt_or_eq with h1 | h1
  · exact h1
  · exact absurd h1.symm he
theorem dropK_id (r : List Pr) (k : ByteArray) (h : ∀ x ∈ r, x.1 ≠ k) : dropK r k = r := by
  unfold dropK
  rw [List.filter_eq_self]
  intro x hx
  simp only [Bool.not_eq_true', beq_eq_false_iff_ne, ne_eq]
  exact fun e => h x hx (bytes_ext (by rw [ByteArray.toList_eq, ByteArray.toList_eq] at e; exact e))
theorem dropK_cons_ne (q : Pr) (r : List Pr) (k : ByteArray) (h : q.1 ≠ k) : dropK (q :: r) k = q :: dropK r k := by
  unfold dropK
  rw [List.filter_cons_of_pos]
  simp only [Bool.not_eq_true', beq_eq_false_iff_ne, ne_eq]
  exact fun e => h (bytes_ext (by rw [ByteArray.toList_eq, ByteArray.toList_eq] at e; exact e))
theorem dropK_cons_eq (q : Pr) (r : List Pr) (k : ByteArray) (h : q.1 = k) : dropK (q :: r) k = dropK r k := by
  unfold dropK
  rw [List.filter_cons_of_neg]
  simp [h]
theorem drop_eq (xs : List Pr) (k : ByteArray) (h : RisesL xs) : lessK xs k ++ moreK xs k = dropK xs k := by
  induction xs with
  | nil => simp [lessK, moreK, dropK]
  | cons q r ih =>
    have h' := List.pairwise_cons.1 h
    rw [lessK_cons]
    by_cases hl : ltB q.1 k = true
    · rw [if_pos hl, moreK_lt q r k hl, List.cons_append, ih h'.2, dropK_cons_ne q r k ((ltB_iff _ _).1 hl).ne]
    · rw [if_neg hl, List.nil_append]
      by_cases he : q.1 = k
      · rw [moreK_eq q r k hl he, dropK_cons_eq q r k he]
        rw [dropK_id r k (fun x hx e => by have := h'.1 x hx; rw [he, e] at this; exact this.ne rfl)]
      · have hq := ltB_not_ne hl he
        rw [moreK_gt q r k hl he, dropK_id]
        intro x hx e
        rcases List.mem_cons.1 hx with hx | hx
        · rw [hx] at e; exact he e
        · have := hq.trans (h'.1 x hx); rw [e] at this; exact this.ne rfl
theorem insK_less (p : Pr) (D : List Pr) (h : ∀ x ∈ D, Lt p.1 x.1) : insK p D = p :: D := by
  cases D with
  | nil => rfl
  | cons q r =>
    unfold insK
    rw [if_pos ((ltB_iff _ _).2 (h q (by simp)))]
theorem put_eq (xs : List Pr) (p : Pr) (h : RisesL xs) : lessK xs p.1 ++ (p :: moreK xs p.1) = putK xs p := by
  induction xs with
  | nil => simp [lessK, moreK, putK, dropK, insK]
  | cons q r ih =>
    have h' := List.pairwise_cons.1 h
    rw [lessK_cons]
    by_cases hl : ltB q.1 p.1 = true
    · have hlt := (ltB_iff _ _).1 hl
      have hn : ¬ ltB p.1 q.1 = true := fun hc => (hlt.trans ((ltB_iff _ _).1 hc)).ne rfl
      rw [if_pos hl, moreK_lt q r p.1 hl, List.cons_append, ih h'.2]
      unfold putK
      rw [dropK_cons_ne q r p.1 hlt.ne]
      rw [insK, if_neg hn]
    · rw [if_neg hl, List.nil_append]
      unfold putK
      rw [← drop_eq (q :: r) p.1 h, lessK_cons, if_neg hl, List.nil_append, insK_less]
      intro x hx
      by_cases he : q.1 = p.1
      · rw [moreK_eq q r p.1 hl he] at hx
        rw [← he]; exact h'.1 x hx
      · have hq := ltB_not_ne hl he
        rw [moreK_gt q r p.1 hl he] at hx
        rcases List.mem_cons.1 hx with hx | hx
        · rw [hx]; exact hq
        · exact hq.trans (h'.1 x hx)
theorem less_le (xs : List Pr) (k : ByteArray) : (lessK xs k).length ≤ xs.length := by unfold lessK; rw [List.length_take]; omega
theorem more_le (xs : List Pr) (k : ByteArray) : (moreK xs k).length ≤ xs.length := by unfold moreK; rw [List.length_drop]; omega
end Go.Proofs.Ytgldgdpgbfejmaa
