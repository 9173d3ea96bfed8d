/- Where a key stands in a rising list: the binary search of package slices, Find of package pair, Find of the reference. -/
import Derived.Test.YtgldgdpgbfejmaaQd
namespace Go.Proofs.Ytgldgdpgbfejmaa
open Go.RowKit Go.Lib
set_option linter.unusedVariables false
set_option linter.unusedSimpArgs false
/-- how many keys stand ahead of a key -/
def posK : List Pr → ByteArray → Nat
  | [], _ => 0
  | q :: r, k => if ltB q.1 k = true then posK r k + 1 else 0
/-- whether it is there -/
def isK (xs : List Pr) (k : ByteArray) : Bool := decide (posK xs k < xs.length ∧ (pat xs (posK xs k)).1 = k)
theorem posK_le (xs : List Pr) (k : ByteArray) : posK xs k ≤ xs.length := by
  induction xs with
  | nil => simp [posK]
  | cons q r ih => unfold posK; split <;> simp; exact ih
theorem pat_succ (q : Pr) (r : List Pr) (j : Nat) : pat (q :: r) (j + 1) = pat r j := by simp [pat]
theorem pat_zero (q : Pr) (r : List Pr) : pat (q :: r) 0 = q := by simp [pat]
theorem posK_lt (xs : List Pr) (k : ByteArray) (j : Nat) (h : j < posK xs k) : Lt (pat xs j).1 k := by
  induction xs generalizing j with
  | nil => simp [posK] at h
  | cons q r ih =>
    unfold posK at h
    split at h
    · rename_i hq
      cases j with
      | zero => rw [pat_zero]; exact (ltB_iff _ _).1 hq
      | succ j => rw [pat_succ]; exact ih j (by omega)
    · omega
theorem posK_not (xs : List Pr) (k : ByteArray) (h : posK xs k < xs.length) : ¬ Lt (pat xs (posK xs k)).1 k := by
  induction xs with
  | nil => simp at h
  | cons q r ih =>
    unfold posK at h ⊢
    split at h
    · rename_i hq
      rw [if_pos hq, pat_succ]
      exact ih (by simpa using h)
    · rename_i hq
      rw [if_neg hq, pat_zero]
      exact fun hl => hq ((ltB_iff _ _).2 hl)
theorem rises_at {xs : List Pr} (h : RisesL xs) {i j : Nat} (hij : i < j) (hj : j < xs.length) : Lt (pat xs i).1 (pat xs j).1 := by
  have := (List.pairwise_iff_getElem.1 h) i j (by omega) hj hij
  simpa [pat, hj, (by omega : i < xs.length)] using this
theorem posK_ge {xs : List Pr} (hr : RisesL xs) (k : ByteArray) (j : Nat) (h : posK xs k ≤ j) (hj : j < xs.length) : ¬ Lt (pat xs j).1 k := by
  rcases Nat.lt_or_eq_of_le h with h | h
  · exact fun hl => posK_not xs k (by omega) ((rises_at hr h hj).trans hl)
  · subst h; exact posK_not xs k hj
theorem isK_eq (xs : List Pr) (k : ByteArray) (h : posK xs k < xs.length) : isK xs k = (cmpS (pat xs (posK xs k)).1 k == 0) := by
  unfold isK
  by_cases e : (pat xs (posK xs k)).1 = k
  · rw [(cmpS_zero _ _).2 e]; simp [h, e]
  · have : cmpS (pat xs (posK xs k)).1 k ≠ 0 := fun h0 => e ((cmpS_zero _ _).1 h0)
    simp [e, this]
theorem isK_bytes (xs : List Pr) (k : ByteArray) (h : posK xs k < xs.length) : isK xs k = ((pat xs (posK xs k)).1.toList == k.toList) := by
  unfold isK
  by_cases e : (pat xs (posK xs k)).1 = k
  · simp [h, e]
  · have : (pat xs (posK xs k)).1.toList ≠ k.toList := fun h0 => e (bytes_ext (by rw [ByteArray.toList_eq, ByteArray.toList_eq] at h0; exact h0))
    simp [e, this]
theorem isK_end (xs : List Pr) (k : ByteArray) (h : ¬ posK xs k < xs.length) : isK xs k = false := by unfold isK; simp [h]
/-- the function that Find compares by, as a value -/
def fn48 : Value := .func (.func 77) #[] #[]

set_option maxRecDepth 100000 in
set_option maxHeartbeats 8000000 in
theorem bsearch (A : Option Addr) (c : Nat) (xs : List Pr) (k : ByteArray) (w : World) (hR : Rd w A xs) (hn : xs.length ≤ 1000) (hr : RisesL xs) :
    Calls Try.prog 76 #[.slice A xs.length c, .string k, fn48] w fun e w' => e = .returned (.tuple #[.int .i64 (posK xs k), .bool (isK xs k)]) ∧ Below w.heap.size w w' := by
  obtain ⟨N, hN⟩ : ∃ N, N = xs.length := ⟨_, rfl⟩
  obtain ⟨P, hP⟩ : ∃ P, P = posK xs k := ⟨_, rfl⟩
  have hPN : P ≤ N := by rw [hP, hN]; exact posK_le _ _
  rw [← hN] at hn ⊢
  rw [← hP]
  have HN := Lib.hid hN
  have HP := Lib.hid hP
  have HR := Lib.hid hR
  have HS := Lib.hid hr
  clear hN hP hR hr
  unfold fn48
  go_enter Try.func76, Try.ntmps76
  go_wp2_with fail
  go_loopw [9, 10] (fun vi vj wr => ∃ (i j : Nat), vi = .int .i64 i ∧ vj = .int .i64 j ∧ i ≤ P ∧ P ≤ j ∧ j ≤ N ∧ Below w.heap.size w wr) (fun vi vj wr => (intOf vj).toNat - (intOf vi).toNat)
  case atStart => exact ⟨0, N, rfl, rfl, Nat.zero_le _, hPN, Nat.le_refl _, Below.refl _ _⟩
  case round =>
    obtain ⟨i, j, rfl, rfl, hi, hij, hj, hB⟩ := hrel
    have hRd := HR.out.below hB
    by_cases hlt : i < j
    · obtain ⟨h, hh⟩ : ∃ h, h = (i + j) / 2 := ⟨_, rfl⟩
      have B1 : i ≤ h ∧ h < j := by omega
      have E1 : IntKind.i64.wrap ((i : Int) + (j : Int)) = (i : Int) + (j : Int) := IntWalk.i64_in _ (by omega)
      have E2 : ((i : Int) + (j : Int)) / 2 = (h : Int) := by omega
      have E3 : IntKind.i64.wrap ((h : Int) + 1) = ((h + 1 : Nat) : Int) := by rw [IntWalk.i64_in _ (by omega)]; omega
      clear hh
      obtain ⟨g, off, rfl, c0, c1⟩ := hRd.at h (by have := HN.out; omega)
      have B2 : (h : Int) < (N : Int) := by omega
      clear hRd
      go_wp2_with fail
      refine (cmp48 (pat xs h) k _).mono ?_
      rintro e w1 ⟨rfl, hb1⟩
      have hB1 := hB.trans (hb1.mono hB.size)
      clear hb1 hB c0 c1
      by_cases hcmp : cmpS (pat xs h).1 k < 0
      · have S : h + 1 ≤ P := by
          rcases Nat.lt_or_ge h P with q | q
          · exact q
          · exact absurd hcmp (posK_ge HS.out k h (by rw [← HP.out]; exact q) (by rw [← HN.out]; omega))
        go_wp2_with fail
        refine ⟨⟨h + 1, j, by go_num, rfl, S, hij, hj, hB1⟩, ?_⟩
        simp [intOf]; omega
      · have S : P ≤ h := by
          rcases Nat.lt_or_ge h P with q | q
          · exact absurd (posK_lt xs k h (by rw [← HP.out]; exact q)) hcmp
          · exact q
        have hge : 0 ≤ cmpS (pat xs h).1 k := by omega
        go_wp2_with fail
        refine ⟨⟨i, h, rfl, rfl, hi, S, by omega, hB1⟩, ?_⟩
        simp [intOf]; omega
    · obtain rfl : i = P := by omega
      by_cases hend : i < N
      · obtain ⟨g, off, rfl, c0, c1⟩ := hRd.at i (by have := HN.out; omega)
        have B2 : (i : Int) < (N : Int) := by omega
        clear hRd
        have HI := Lib.hid (isK_eq xs k (by rw [← HP.out, ← HN.out]; exact hend))
        go_wp2_with fail
        refine (cmp48 (pat xs i) k _).mono ?_
        rintro e w1 ⟨rfl, hb1⟩
        have hB1 := hB.trans (hb1.mono hB.size)
        clear hb1 hB c0 c1
        go_wp2_with fail
        go_ret2
        have e1 := HI.out
        rw [← HP.out] at e1
        rw [e1]
        exact ⟨rfl, hB1⟩
      · have HI := Lib.hid (isK_end xs k (by rw [← HP.out, ← HN.out]; exact hend))
        have B2 : ¬ ((i : Int) < (N : Int)) := by omega
        go_wp2_with fail
        go_ret2
        rw [HI.out]
        exact ⟨rfl, hB⟩
set_option maxRecDepth 100000 in
set_option maxHeartbeats 2000000 in
theorem find_any (A : Option Addr) (c : Nat) (xs : List Pr) (k : ByteArray) (w : World) (hR : Rd w A xs) (hn : xs.length ≤ 1000) (hr : RisesL xs) :
    Calls Try.prog 60 #[.slice A xs.length c, .string k] w fun e w' => e = .returned (.tuple #[.int .i64 (posK xs k), .bool (isK xs k)]) ∧ Below w.heap.size w w' := by
  have hb := bsearch A c xs k w hR hn hr
  unfold fn48 at hb
  go_enter Try.func60, Try.ntmps60
  go_wp2_with fail
  refine hb.mono ?_
  rintro e w1 ⟨rfl, hB⟩
  go_wp2_with fail
  go_ret2
  exact ⟨rfl, hB⟩
end Go.Proofs.Ytgldgdpgbfejmaa
