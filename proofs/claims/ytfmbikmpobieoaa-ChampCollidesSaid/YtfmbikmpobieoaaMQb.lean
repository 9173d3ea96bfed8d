/- Where a key stands in a rising list: the binary search of package slices, Find of package pair, Find of the reference. -/
import Derived.Test.YtfmbikmpobieoaaMQ
namespace Go.Proofs.Ytfmbikmpobieoaa
open Go.RowKit Go.Lib
set_option linter.unusedVariables false
set_option maxRecDepth 100000
set_option maxRecDepth 100000
set_option linter.unusedSimpArgs false
/-- how many keys stand ahead of a key -/
def posK : List Pr → ByteArray → Nat
  | [], _ => 0
  | q :: r, k => if ltB q.1 k = true then posK r k + 1 else 0
/-- whether it is there -/
def isK (xs : List Pr) (k : ByteArray) : Bool := decide (posK xs k < xs.length ∧ (pat xs (posK xs k)).1 = k)
theorem posK_le (xs : List Pr) (k : ByteArray) : posK xs k ≤ xs.length := by
  induction xs with
  | nil => simp [posK]
  | cons q r ih => unfold posK; split <;> simp; exact ih
theorem pat_succ (q : Pr) (r : List Pr) (j : Nat) : pat (q :: r) (j + 1) = pat r j := by simp [pat]
theorem pat_zero (q : Pr) (r : List Pr) : pat (q :: r) 0 = q := by simp [pat]
theorem posK_lt (xs : List Pr) (k : ByteArray) (j : Nat) (h : j < posK xs k) : Lt (pat xs j).1 k := by
  induction xs generalizing j with
  | nil => simp [posK] at h
  | cons q r ih =>
    unfold posK at h
    split at h
    · rename_i hq
      cases j with
      | zero => rw [pat_zero]; exact (ltB_iff _ _).1 hq
      | succ j => rw [pat_succ]; exact ih j (by omega)
    · omega
theorem posK_not (xs : List Pr) (k : ByteArray) (h : posK xs k < xs.length) : ¬ Lt (pat xs (posK xs k)).1 k := by
  induction xs with
  | nil => simp at h
  | cons q r ih =>
    unfold posK at h ⊢
    split at h
    · rename_i hq
      rw [if_pos hq, pat_succ]
      exact ih (by simpa using h)
    · rename_i hq
      rw [if_neg hq, pat_zero]
      exact fun hl => hq ((ltB_iff _ _).2 hl)
theorem rises_at {xs : List Pr} (h : RisesL xs) {i j : Nat} (hij : i < j) (hj : j < xs.length) : Lt (pat xs i).1 (pat xs j).1 := by
  have := (List.pairwise_iff_getElem.1 h) i j (by omega) hj hij
  simpa [pat, hj, (by omega : i < xs.length)] using this
theorem posK_ge {xs : List Pr} (hr : RisesL xs) (k : ByteArray) (j : Nat) (h : posK xs k ≤ j) (hj : j < xs.length) : ¬ Lt (pat xs j).1 k := by
  rcases Nat.lt_or_eq_of_le h with h | h
  · exact fun hl => posK_not xs k (by omega) ((rises_at hr h hj).trans hl)
  · subst h; exact posK_not xs k hj
theorem isK_eq (xs : List Pr) (k : ByteArray) (h : posK xs k < xs.length) : isK xs k = (cmpS (pat xs (posK xs k)).1 k == 0) := by
  unfold isK
  by_cases e : (pat xs (posK xs k)).1 = k
  · rw [(cmpS_zero _ _).2 e]; simp [h, e]
  · have : cmpS (pat xs (posK xs k)).1 k ≠ 0 := fun h0 => e ((cmpS_zero _ _).1 h0)
    simp [e, this]
theorem isK_bytes (xs : List Pr) (k : ByteArray) (h : posK xs k < xs.length) : isK xs k = ((pat xs (posK xs k)).1.toList == k.toList) := by
  unfold isK
  by_cases e : (pat xs (posK xs k)).1 = k
  · simp [h, e]
  · have : (pat xs (posK xs k)).1.toList ≠ k.toList := fun h0 => e (bytes_ext (by rw [ByteArray.toList_eq, ByteArray.toList_eq] at h0; exact h0))
    simp [e, this]
theorem isK_end (xs : List Pr) (k : ByteArray) (h : ¬ posK xs k < xs.length) : isK xs k = false := by unfold isK; simp [h]
/-- the function that Find compares by, as a value -/
def fn48 : Value := .func (.func 73) #[] #[]

set_option maxRecDepth 100000 in
set_option maxHeartbeats 8000000 in
theorem bsearch (A : Option Addr) (c : Nat) (xs : List Pr) (k : ByteArray) (w : World) (hR : Rd w A xs) (hn : xs.length ≤ 1000) (hr : RisesL xs) :
    Calls Try.prog 72 #[.slice A xs.length c, .string k, fn48] w fun e w' => e = .returned (.tuple #[.int .i64 (posK xs k), .bool (isK xs k)]) ∧ Below w.heap.size w w' := by
  obtain ⟨N, hN⟩ : ∃ N, N = xs.length := ⟨_, rfl⟩
  obtain ⟨P, hP⟩ : ∃ P, P = posK xs k := ⟨_, rfl⟩
  have hPN : P ≤ N := by rw [hP, hN]; exact posK_le _ _
  rw [← hN] at hn ⊢
  rw [← hP]
  have HN := Lib.hid hN
  have HP := Lib.hid hP
  have HR := Lib.hid hR
  have HS := Lib.hid hr
  clear hN hP hR hr
  unfold fn48
  go_enter Try.func72, Try.ntmps72
  go_wp2_with fail
  go_loopw [9, 10] (fun vi vj wr => ∃ (i j : Nat), vi = .int .i64 i ∧ vj = .int .i64 j ∧ i ≤ P ∧ P ≤ j ∧ j ≤ N ∧ Below w.heap.size w wr) (fun vi vj wr => (intOf vj).toNat - (intOf vi).toNat)
  case atStart => exact ⟨0, N, rfl, rfl, Nat.zero_le _, hPN, Nat.le_refl _, Below.refl _ _⟩
  case round =>
    obtain ⟨i, j, rfl, rfl, hi, hij, hj, hB⟩ := hrel
    have hRd := HR.out.below hB
    by_cases hlt : i < j
    · obtain ⟨h, hh⟩ : ∃ h, h = (i + j) / 2 := ⟨_, rfl⟩
      have B1 : i ≤ h ∧ h < j := by omega
      have E1 : IntKind.i64.wrap ((i : Int) + (j : Int)) = (i : Int) + (j : Int) := IntWalk.i64_in _ (by omega)
      have E2 : ((i : Int) + (j : Int)) / 2 = (h : Int) := by omega
      have E3 : IntKind.i64.wrap ((h : Int) + 1) = ((h + 1 : Nat) : Int) := by rw [IntWalk.i64_in _ (by omega)]; omega
      clear hh
      obtain ⟨g, off, rfl, c0, c1⟩ := hRd.at h (by have := HN.out; omega)
      have B2 : (h : Int) < (N : Int) := by omega
      clear hRd
      go_wp2_with fail
      refine (cmp48 (pat xs h) k _).mono ?_
      rintro e w1 ⟨rfl, hb1⟩
      have hB1 := hB.trans (hb1.mono hB.size)
      clear hb1 hB c0 c1
      by_cases hcmp : cmpS (pat xs h).1 k < 0
      · have S : h + 1 ≤ P := by
          rcases Nat.lt_or_ge h P with q | q
          · exact q
          · exact absurd hcmp (posK_ge HS.out k h (by rw [← HP.out]; exact q) (by rw [← HN.out]; omega))
        go_wp2_with fail
        refine ⟨⟨h + 1, j, by go_num, rfl, S, hij, hj, hB1⟩, ?_⟩
        simp [intOf]; omega
      · have S : P ≤ h := by
          rcases Nat.lt_or_ge h P with q | q
          · exact absurd (posK_lt xs k h (by rw [← HP.out]; exact q)) hcmp
          · exact q
        have hge : 0 ≤ cmpS (pat xs h).1 k := by omega
        go_wp2_with fail
        refine ⟨⟨i, h, rfl, rfl, hi, S, by omega, hB1⟩, ?_⟩
        simp [intOf]; omega
    · obtain rfl : i = P := by omega
      by_cases hend : i < N
      · obtain ⟨g, off, rfl, c0, c1⟩ := hRd.at i (by have := HN.out; omega)
        have B2 : (i : Int) < (N : Int) := by omega
        clear hRd
        have HI := Lib.hid (isK_eq xs k (by rw [← HP.out, ← HN.out]; exact hend))
        go_wp2_with fail
        refine (cmp48 (pat xs i) k _).mono ?_
        rintro e w1 ⟨rfl, hb1⟩
        have hB1 := hB.trans (hb1.mono hB.size)
        clear hb1 hB c0 c1
        go_wp2_with fail
        go_ret2
        have e1 := HI.out
        rw [← HP.out] at e1
        rw [e1]
        exact ⟨rfl, hB1⟩
      · have HI := Lib.hid (isK_end xs k (by rw [← HP.out, ← HN.out]; exact hend))
        have B2 : ¬ ((i : Int) < (N : Int)) := by omega
        go_wp2_with fail
        go_ret2
        rw [HI.out]
        exact ⟨rfl, hB⟩
set_option maxRecDepth 100000 in
set_option maxHeartbeats 2000000 in
theorem find_any (A : Option Addr) (c : Nat) (xs : List Pr) (k : ByteArray) (w : World) (hR : Rd w A xs) (hn : xs.length ≤ 1000) (hr : RisesL xs) :
    Calls Try.prog 55 #[.slice A xs.length c, .string k] w fun e w' => e = .returned (.tuple #[.int .i64 (posK xs k), .bool (isK xs k)]) ∧ Below w.heap.size w w' := by
  have hb := bsearch A c xs k w hR hn hr
  unfold fn48 at hb
  go_enter Try.func55, Try.ntmps55
  go_wp2_with fail
  refine hb.mono ?_
  rintro e w1 ⟨rfl, hB⟩
  go_wp2_with fail
  go_ret2
  exact ⟨rfl, hB⟩
end Go.Proofs.Ytfmbikmpobieoaa
/- The reference's Find; what stands around a key in a rising list. -/
namespace Go.Proofs.Ytfmbikmpobieoaa
open Go.RowKit Go.Lib
set_option linter.unusedVariables false
set_option maxRecDepth 100000
set_option maxRecDepth 100000
set_option linter.unusedSimpArgs false
/-- those less than a key -/
def lessK (xs : List Pr) (k : ByteArray) : List Pr := xs.take (posK xs k)
/-- those greater -/
def moreK (xs : List Pr) (k : ByteArray) : List Pr := xs.drop (posK xs k + if isK xs k = true then 1 else 0)
theorem Rd.take {w : World} {A : Option Addr} {xs : List Pr} (h : Rd w A xs) (n : Nat) : Rd w A (xs.take n) := fun j p hj => by
  rw [List.getElem?_take] at hj
  split at hj
  · exact h j p hj
  · cases hj
theorem Rd.drop {w : World} {g off : Nat} {xs : List Pr} (h : Rd w (some ⟨g, off, none⟩) xs) (n : Nat) : Rd w (some ⟨g, off + n * 2, none⟩) (xs.drop n) := fun j p hj => by
  rw [List.getElem?_drop] at hj
  obtain ⟨g', off', e, h1, h2⟩ := h (n + j) p hj
  simp at e
  obtain ⟨rfl, rfl⟩ := e
  refine ⟨_, _, rfl, ?_, ?_⟩
  · rw [show off + n * 2 + j * 2 = off + (n + j) * 2 by omega]; exact h1
  · rw [show off + n * 2 + j * 2 + 1 = off + (n + j) * 2 + 1 by omega]; exact h2
/-- what is told of those around a key -/
def AroundPost (xs : List Pr) (k : ByteArray) (w : World) (e : Ending) (w' : World) : Prop :=
  ∃ A1 c1 A2 c2, e = .returned (.tuple #[.slice A1 (lessK xs k).length c1, .slice A2 (moreK xs k).length c2]) ∧ Rd w' A1 (lessK xs k) ∧ Rd w' A2 (moreK xs k) ∧ (A1 = none → c1 = 0) ∧ (A2 = none → c2 = 0) ∧ Below w.heap.size w w'
theorem around_end {A : Option Addr} {c P Q : Nat} {xs : List Pr} {k : ByteArray} {w w' : World} (hR : Rd w' A xs) (hB : Below w.heap.size w w') (hP : P = posK xs k) (hQ : Q = posK xs k + if isK xs k = true then 1 else 0) (hPN : P ≤ xs.length) (hc : xs.length ≤ c) (h00 : A = none → c = 0) (n : Nat) (A2 : Option Addr) (hA2 : A2 = if c = Q then A else A.map (·.add (Q * 2))) :
    AroundPost xs k w (.returned (.tuple #[.slice A P c, .slice A2 (xs.length - Q) (c - Q)])) (w'.drewN n) := by
  have e1 : (lessK xs k).length = P := by unfold lessK; rw [List.length_take, ← hP]; omega
  have e2 : (moreK xs k).length = xs.length - Q := by unfold moreK; rw [List.length_drop, ← hQ]
  refine ⟨A, c, A2, c - Q, by rw [e1, e2], (hR.take _).drewN n, ?_, h00, (fun hn => by
    subst hA2
    split at hn
    · rw [h00 hn]; simp
    · rw [h00 (by simpa using hn)]; simp), ⟨hB.os, hB.tape, hB.output, hB.size, hB.block⟩⟩
  refine Rd.drewN (w := w') ?_ n
  unfold moreK
  rw [← hQ]
  by_cases h0 : xs.length ≤ Q
  · rw [List.drop_eq_nil_of_le h0]
    intro j p hj
    simp at hj
  · obtain ⟨g, off, rfl⟩ := hR.starts (by omega)
    rw [if_neg (by omega)] at hA2
    rw [hA2, Option.map_some, addr_add]
    exact hR.drop Q
end Go.Proofs.Ytfmbikmpobieoaa
/- Put and Drop of package pair. -/
namespace Go.Proofs.Ytfmbikmpobieoaa
open Go.RowKit Go.Lib
set_option linter.unusedVariables false
set_option maxRecDepth 100000
set_option maxRecDepth 100000
set_option linter.unusedSimpArgs false
theorem lessK_cons (q : Pr) (r : List Pr) (k : ByteArray) : lessK (q :: r) k = if ltB q.1 k = true then q :: lessK r k else [] := by
  unfold lessK
  rw [posK]
  split <;> simp
theorem isK_cons_lt (q : Pr) (r : List Pr) (k : ByteArray) (h : ltB q.1 k = true) : isK (q :: r) k = isK r k := by
  unfold isK
  rw [posK, if_pos h, pat_succ]
  simp
theorem isK_cons_ge (q : Pr) (r : List Pr) (k : ByteArray) (h : ¬ ltB q.1 k = true) : isK (q :: r) k = decide (q.1 = k) := by
  unfold isK
  rw [posK, if_neg h, pat_zero]
  simp
theorem moreK_lt (q : Pr) (r : List Pr) (k : ByteArray) (h : ltB q.1 k = true) : moreK (q :: r) k = moreK r k := by
  unfold moreK
  rw [isK_cons_lt q r k h, posK, if_pos h, Nat.add_right_comm, List.drop_succ_cons]
theorem moreK_eq (q : Pr) (r : List Pr) (k : ByteArray) (h : ¬ ltB q.1 k = true) (he : q.1 = k) : moreK (q :: r) k = r := by
  unfold moreK
  rw [isK_cons_ge q r k h, posK, if_neg h]
  simp [he]
theorem moreK_gt (q : Pr) (r : List Pr) (k : ByteArray) (h : ¬ ltB q.1 k = true) (he : ¬ q.1 = k) : moreK (q :: r) k = q :: r := by
  unfold moreK
  rw [isK_cons_ge q r k h, posK, if_neg h]
  simp [he]
theorem ltB_not_ne {a b : ByteArray} (h : ¬ ltB a b = true) (he : ¬ a = b) : Lt b a := by
  have h1 : Le b a := not_lt_le (fun hc => h ((ltB_iff _ _).2 hc))
  rcases h1.lt_or_eq with h1 | h1
  · exact h1
  · exact absurd h1.symm he
theorem dropK_id (r : List Pr) (k : ByteArray) (h : ∀ x ∈ r, x.1 ≠ k) : dropK r k = r := by
  unfold dropK
  rw [List.filter_eq_self]
  intro x hx
  simp only [Bool.not_eq_true', beq_eq_false_iff_ne, ne_eq]
  exact fun e => h x hx (bytes_ext (by rw [ByteArray.toList_eq, ByteArray.toList_eq] at e; exact e))
theorem dropK_cons_ne (q : Pr) (r : List Pr) (k : ByteArray) (h : q.1 ≠ k) : dropK (q :: r) k = q :: dropK r k := by
  unfold dropK
  rw [List.filter_cons_of_pos]
  simp only [Bool.not_eq_true', beq_eq_false_iff_ne, ne_eq]
  exact fun e => h (bytes_ext (by rw [ByteArray.toList_eq, ByteArray.toList_eq] at e; exact e))
theorem dropK_cons_eq (q : Pr) (r : List Pr) (k : ByteArray) (h : q.1 = k) : dropK (q :: r) k = dropK r k := by
  unfold dropK
  rw [List.filter_cons_of_neg]
  simp [h]
theorem drop_eq (xs : List Pr) (k : ByteArray) (h : RisesL xs) : lessK xs k ++ moreK xs k = dropK xs k := by
  induction xs with
  | nil => simp [lessK, moreK, dropK]
  | cons q r ih =>
    have h' := List.pairwise_cons.1 h
    rw [lessK_cons]
    by_cases hl : ltB q.1 k = true
    · rw [if_pos hl, moreK_lt q r k hl, List.cons_append, ih h'.2, dropK_cons_ne q r k ((ltB_iff _ _).1 hl).ne]
    · rw [if_neg hl, List.nil_append]
      by_cases he : q.1 = k
      · rw [moreK_eq q r k hl he, dropK_cons_eq q r k he]
        rw [dropK_id r k (fun x hx e => by have := h'.1 x hx; rw [he, e] at this; exact this.ne rfl)]
      · have hq := ltB_not_ne hl he
        rw [moreK_gt q r k hl he, dropK_id]
        intro x hx e
        rcases List.mem_cons.1 hx with hx | hx
        · rw [hx] at e; exact he e
        · have := hq.trans (h'.1 x hx); rw [e] at this; exact this.ne rfl
theorem insK_less (p : Pr) (D : List Pr) (h : ∀ x ∈ D, Lt p.1 x.1) : insK p D = p :: D := by
  cases D with
  | nil => rfl
  | cons q r =>
    unfold insK
    rw [if_pos ((ltB_iff _ _).2 (h q (by simp)))]
theorem put_eq (xs : List Pr) (p : Pr) (h : RisesL xs) : lessK xs p.1 ++ (p :: moreK xs p.1) = putK xs p := by
  induction xs with
  | nil => simp [lessK, moreK, putK, dropK, insK]
  | cons q r ih =>
    have h' := List.pairwise_cons.1 h
    rw [lessK_cons]
    by_cases hl : ltB q.1 p.1 = true
    · have hlt := (ltB_iff _ _).1 hl
      have hn : ¬ ltB p.1 q.1 = true := fun hc => (hlt.trans ((ltB_iff _ _).1 hc)).ne rfl
      rw [if_pos hl, moreK_lt q r p.1 hl, List.cons_append, ih h'.2]
      unfold putK
      rw [dropK_cons_ne q r p.1 hlt.ne]
      rw [insK, if_neg hn]
    · rw [if_neg hl, List.nil_append]
      unfold putK
      rw [← drop_eq (q :: r) p.1 h, lessK_cons, if_neg hl, List.nil_append, insK_less]
      intro x hx
      by_cases he : q.1 = p.1
      · rw [moreK_eq q r p.1 hl he] at hx
        rw [← he]; exact h'.1 x hx
      · have hq := ltB_not_ne hl he
        rw [moreK_gt q r p.1 hl he] at hx
        rcases List.mem_cons.1 hx with hx | hx
        · rw [hx]; exact hq
        · exact hq.trans (h'.1 x hx)
theorem less_le (xs : List Pr) (k : ByteArray) : (lessK xs k).length ≤ xs.length := by unfold lessK; rw [List.length_take]; omega
theorem more_le (xs : List Pr) (k : ByteArray) : (moreK xs k).length ≤ xs.length := by unfold moreK; rw [List.length_drop]; omega
end Go.Proofs.Ytfmbikmpobieoaa
