/- Same of package pair and of its reference: whether two lists are equal. -/
import Derived.Test.YtgldgdpgbfejmaaPd
import Derived.Laws.StructEq
namespace Go.Proofs.Ytgldgdpgbfejmaa
open Go.RowKit Go.Lib
set_option linter.unusedVariables false
set_option linter.unusedSimpArgs false
/-- whether two pairs are one -/
def peq (p q : Pr) : Bool := decide (p = q)
theorem peq_bytes (p q : Pr) : peq p q = (p.1.toList == q.1.toList && p.2.toList == q.2.toList) := by
  unfold peq
  rw [Bool.eq_iff_iff]
  simp only [decide_eq_true_eq, Bool.and_eq_true, beq_iff_eq, ByteArray.toList_eq]
  constructor
  · rintro rfl; exact ⟨rfl, rfl⟩
  · rintro ⟨h1, h2⟩; exact Prod.ext (bytes_ext h1) (bytes_ext h2)
set_option maxHeartbeats 1000000 in
theorem eq33 (p q : Pr) (d : Nat) (w : World) : (Op.equalIn (d + 2) 27 (.agg #[.string p.1, .string p.2]) (.agg #[.string q.1, .string q.2])).run Try.prog w = .ok (peq p q) w := by
  have u9 := Try.underlying9
  have hS : Try.prog.underlying 27 = some (.struct (Try.prog.fieldsOf 27)) := by kernel_rfl
  have hp : Try.prog.stoodInHeld 27 = false := by kernel_rfl
  rw [run_equalIn_struct w (d + 1) 27 _ _ hS hp]
  simp only [Program.fieldsOf, Try.underlying27]
  go_simp
  rw [peq_bytes]
  by_cases h1 : p.1.toList = q.1.toList <;> by_cases h2 : p.2.toList = q.2.toList <;> simp [h1, h2]
set_option maxHeartbeats 1000000 in
theorem eq40 (p q : Pr) (d : Nat) (w : World) : (Op.equalIn (d + 2) 81 (.agg #[.string p.1, .string p.2]) (.agg #[.string q.1, .string q.2])).run Try.prog w = .ok (peq p q) w := by
  have u9 := Try.underlying9
  have hS : Try.prog.underlying 81 = some (.struct (Try.prog.fieldsOf 81)) := by kernel_rfl
  have hp : Try.prog.stoodInHeld 81 = false := by kernel_rfl
  rw [run_equalIn_struct w (d + 1) 81 _ _ hS hp]
  simp only [Program.fieldsOf, Try.underlying81]
  go_simp
  rw [peq_bytes]
  by_cases h1 : p.1.toList = q.1.toList <;> by_cases h2 : p.2.toList = q.2.toList <;> simp [h1, h2]
theorem neq33 (p q : Pr) (w : World) : (binOp .neq 27 (.agg #[.string p.1, .string p.2]) (.agg #[.string q.1, .string q.2])).run Try.prog w = .ok (.bool (!peq p q)) w := by
  rw [run_neq_struct, show (10000 : Nat) = 9998 + 2 from rfl, eq33 p q 9998 w]; rfl
theorem neq40 (p q : Pr) (w : World) : (binOp .neq 81 (.agg #[.string p.1, .string p.2]) (.agg #[.string q.1, .string q.2])).run Try.prog w = .ok (.bool (!peq p q)) w := by
  rw [run_neq_struct, show (10000 : Nat) = 9998 + 2 from rfl, eq40 p q 9998 w]; rfl
/-- whether two lists are one -/
def leq (xs ys : List Pr) : Bool := decide (xs = ys)
theorem leq_step {xs ys : List Pr} {k : Nat} (hl : xs.length = ys.length) (hk : k < xs.length) (h : xs.take k = ys.take k) (he : peq (pat xs k) (pat ys k) = true) : xs.take (k + 1) = ys.take (k + 1) := by
  unfold peq at he
  have he := of_decide_eq_true he
  rw [List.take_succ_eq_append_getElem hk, List.take_succ_eq_append_getElem (by omega : k < ys.length), h]
  unfold pat at he
  rw [List.getElem?_eq_getElem hk, List.getElem?_eq_getElem (by omega : k < ys.length)] at he
  simp at he
  rw [he]
theorem leq_no {xs ys : List Pr} {k : Nat} (he : peq (pat xs k) (pat ys k) = false) : leq xs ys = false := by
  unfold leq peq at *
  rw [decide_eq_false_iff_not] at *
  rintro rfl; exact he rfl
theorem Rd.at {w : World} {A : Option Addr} {xs : List Pr} (h : Rd w A xs) (k : Nat) (hk : k < xs.length) : ∃ g off, A = some ⟨g, off, none⟩ ∧ w.cell? ⟨g, off + k * 2, none⟩ = some (.string (pat xs k).1) ∧ w.cell? ⟨g, off + k * 2 + 1, none⟩ = some (.string (pat xs k).2) := h k _ (pat_get hk)
theorem Rd.drewN {w : World} {A : Option Addr} {xs : List Pr} (h : Rd w A xs) (n : Nat) : Rd (w.drewN n) A xs := h

set_option maxRecDepth 100000 in
set_option maxHeartbeats 4000000 in
theorem equal_any (A B : Option Addr) (ca cb : Nat) (xs ys : List Pr) (w : World) (hA : Rd w A xs) (hB : Rd w B ys) (hn : xs.length ≤ 1000) (hm : ys.length ≤ 1000) :
    Calls Try.prog 71 #[.slice A xs.length ca, .slice B ys.length cb] w fun e w' => e = .returned (.bool (leq xs ys)) ∧ ∃ n, w' = w.drewN n := by
  obtain ⟨n, hxs⟩ : ∃ n, n = xs.length := ⟨_, rfl⟩
  obtain ⟨m, hys⟩ : ∃ m, m = ys.length := ⟨_, rfl⟩
  have hneq := fun p q w => neq33 p q w
  rw [← hxs, ← hys]
  rw [← hxs] at hn
  rw [← hys] at hm
  have HX := Lib.hid hxs
  have HY := Lib.hid hys
  have HA := Lib.hid hA
  have HB := Lib.hid hB
  clear hxs hys hA hB
  by_cases hnm : n = m
  · subst hnm
    go_enter Try.func71, Try.ntmps71
    go_wp2_with fail
    go_loopw [13] (fun i wr => ∃ k : Nat, k ≤ n ∧ i = .int .i64 k ∧ Hid (xs.take k = ys.take k) ∧ ∃ q, wr = w.drewN q) (fun i wr => n - (intOf i).toNat)
    case atStart => exact ⟨0, by omega, rfl, Lib.hid rfl, 0, rfl⟩
    case round =>
      obtain ⟨k, hk, rfl, hE, q, rfl⟩ := hrel
      by_cases hlt : k < n
      · obtain ⟨ga, oa, rfl, a0, a1⟩ := (HA.out.drewN q).at k (by rw [← HX.out]; exact hlt)
        obtain ⟨gb, ob, rfl, b0, b1⟩ := (HB.out.drewN q).at k (by rw [← HY.out]; exact hlt)
        have hd : ∀ k, (w.drewN q).drewN k = w.drewN (q + k) := fun k => by simp [World.drewN, Nat.add_assoc]
        generalize hW : w.drewN q = W at *
        have HW := Lib.hid hW
        have HD := Lib.hid hd
        clear hd hW
        cases he : peq (pat xs k) (pat ys k) with
        | true =>
          have S := Lib.hid (leq_step (by rw [← HX.out, ← HY.out]) (by rw [← HX.out]; exact hlt) hE.out he)
          have hq := hneq (pat xs k) (pat ys k)
          rw [he] at hq
          clear hneq he
          go_wp2_with fail
          go_quiet (fail)
          go_wp2_with fail
          exact ⟨⟨k + 1, by omega, by go_num, S, q + nq, HD.out nq⟩, by simp [intOf]; omega⟩
        | false =>
          have S := Lib.hid (leq_no he)
          have hq := hneq (pat xs k) (pat ys k)
          rw [he] at hq
          clear hneq he
          go_wp2_with fail
          go_quiet (fail)
          go_wp2_with fail
          go_ret
          rw [S.out]
          exact ⟨rfl, q + nq, HD.out nq⟩
      · obtain rfl : k = n := by omega
        go_wp2_with fail
        go_ret
        have h := hE.out
        have : leq xs ys = true := by
          unfold leq
          rw [List.take_of_length_le (by rw [← HX.out]; omega), List.take_of_length_le (by rw [← HY.out]; omega)] at h
          simp [h]
        rw [this]
        exact ⟨rfl, q, rfl⟩
  · have : leq xs ys = false := by
      unfold leq
      rw [decide_eq_false_iff_not]
      rintro rfl; exact hnm (HX.out.trans HY.out.symm)
    rw [this]
    have F1 : ¬ ((n : Int) = (m : Int)) := by omega
    go_enter Try.func71, Try.ntmps71
    go_wp2_with fail
    go_ret
    exact ⟨rfl, 0, rfl⟩
theorem same_any (A B : Option Addr) (ca cb : Nat) (xs ys : List Pr) (w : World) (hA : Rd w A xs) (hB : Rd w B ys) (hn : xs.length ≤ 1000) (hm : ys.length ≤ 1000) :
    Calls Try.prog 51 #[.slice A xs.length ca, .slice B ys.length cb] w fun e w' => e = .returned (.bool (leq xs ys)) ∧ ∃ n, w' = w.drewN n := by
  go_enter Try.func51, Try.ntmps51
  go_wp2_with fail
  refine (equal_any A B ca cb xs ys w hA hB hn hm).mono ?_
  rintro e w' ⟨rfl, n, rfl⟩
  go_wp2_with fail
  go_ret
  exact ⟨rfl, n, rfl⟩
end Go.Proofs.Ytgldgdpgbfejmaa
