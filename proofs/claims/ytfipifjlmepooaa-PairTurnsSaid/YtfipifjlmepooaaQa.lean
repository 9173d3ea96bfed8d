/- Whether a list rises, as package pair and as the reference tell it. -/
import Derived.Test.YtfipifjlmepooaaPz
import Derived.Test.YtfipifjlmepooaaPq
namespace Go.Proofs.Ytfipifjlmepooaa
open Go.RowKit Go.Lib
set_option linter.unusedVariables false
set_option linter.unusedSimpArgs false
theorem bytesLess_eq (x y : List UInt8) : Op.bytesLess x y = decide (compareBytes x y < 0) := by
  induction x generalizing y with
  | nil => cases y <;> simp [Op.bytesLess, compareBytes]
  | cons a x ih =>
    cases y with
    | nil => simp [Op.bytesLess, compareBytes]
    | cons b y =>
      simp only [Op.bytesLess, compareBytes, ih]
      by_cases h1 : a < b
      · simp [h1]
      · by_cases h2 : b < a
        · have : ¬ a = b := fun e => UInt8.ne_of_lt h2 e.symm
          simp [h1, h2, this]
        · have : a = b := UInt8.le_antisymm (UInt8.not_lt.1 h2) (UInt8.not_lt.1 h1)
          simp [h1, h2, this]
theorem bytesLess_ltB (a b : ByteArray) : Op.bytesLess a.toList b.toList = ltB a b := by
  rw [bytesLess_eq, ByteArray.toList_eq, ByteArray.toList_eq]; rfl
theorem geqS (a b : ByteArray) (w : World) : (binOp .geq 9 (.string a) (.string b)).run Try.prog w = .ok (.bool (!ltB a b)) w := by
  have h : binOp .geq 9 (.string a) (.string b) = pure (.bool (!Op.bytesLess a.toList b.toList)) := by simp [binOp, Op.stringOp]
  rw [h, bytesLess_ltB]; rfl
/-- whether each key is less than the next one -/
def risesB : List Pr → Bool
  | x :: y :: r => ltB x.1 y.1 && risesB (y :: r)
  | _ => true
theorem rises_drop (xs : List Pr) (j : Nat) (h : j + 1 < xs.length) : risesB (xs.drop j) = (ltB (pat xs j).1 (pat xs (j + 1)).1 && risesB (xs.drop (j + 1))) := by
  have e : xs.drop j = pat xs j :: pat xs (j + 1) :: xs.drop (j + 2) := by
    rw [List.drop_eq_getElem_cons (by omega), List.drop_eq_getElem_cons h]
    simp [pat, h, (by omega : j < xs.length)]
  have e2 : xs.drop (j + 1) = pat xs (j + 1) :: xs.drop (j + 2) := by
    rw [List.drop_eq_getElem_cons h]
    simp [pat, h]
  rw [e, e2]
  rfl
theorem rises_end (xs : List Pr) (j : Nat) (h : xs.length ≤ j + 1) : risesB (xs.drop j) = true := by
  have hl : (xs.drop j).length ≤ 1 := by rw [List.length_drop]; omega
  match hd : xs.drop j, hl with
  | [], _ => rfl
  | [x], _ => rfl
theorem risesB_iff (xs : List Pr) : risesB xs = true ↔ RisesL xs := by
  induction xs with
  | nil => simp [risesB, RisesL]
  | cons x r ih =>
    cases r with
    | nil => simp [risesB, RisesL]
    | cons y r =>
      have hlt : ltB x.1 y.1 = true ↔ Lt x.1 y.1 := by unfold ltB Lt; simp
      simp only [risesB, Bool.and_eq_true, hlt, ih]
      unfold RisesL
      constructor
      · rintro ⟨h1, h2⟩
        rw [List.pairwise_cons]
        refine ⟨fun q hq => ?_, h2⟩
        rcases List.mem_cons.1 hq with rfl | hq
        · exact h1
        · exact h1.trans ((List.pairwise_cons.1 h2).1 q hq)
      · intro h
        rw [List.pairwise_cons] at h
        exact ⟨h.1 y (by simp), h.2⟩

set_option maxRecDepth 100000 in
set_option maxHeartbeats 4000000 in
theorem rises_any (A : Option Addr) (c : Nat) (xs : List Pr) (w : World) (hR : Rd w A xs) (hn : xs.length ≤ 1000) :
    Calls Try.prog 20 #[.slice A xs.length c] w fun e w' => e = .returned (.bool (risesB xs)) ∧ ∃ n, w' = w.drewN n := by
  obtain ⟨n, hxs⟩ : ∃ n, n = xs.length := ⟨_, rfl⟩
  rw [← hxs] at hn ⊢
  have HX := Lib.hid hxs
  have HR := Lib.hid hR
  clear hxs hR
  go_enter Try.func20, Try.ntmps20
  go_wp2_with fail
  go_loopw [3] (fun v wr => ∃ j : Nat, v = .int .i64 ((j + 1 : Nat) : Int) ∧ j ≤ 1001 ∧ Hid (risesB xs = risesB (xs.drop j)) ∧ ∃ q, wr = w.drewN q) (fun v wr => n + 2 - (intOf v).toNat)
  case atStart => exact ⟨0, rfl, by omega, Lib.hid rfl, 0, rfl⟩
  case round =>
    obtain ⟨j, rfl, hj, hE, q, rfl⟩ := hrel
    obtain ⟨k, hk⟩ : ∃ k, k = j + 1 := ⟨_, rfl⟩
    rw [← hk]
    by_cases hlt : k < n
    · have hd := Lib.hid (rises_drop xs j (by rw [← HX.out]; omega))
      obtain ⟨g, off, rfl, c0, -⟩ := (HR.out.drewN q).at j (by rw [← HX.out]; omega)
      obtain ⟨g', off', e', c1, -⟩ := (HR.out.drewN q).at k (by rw [← HX.out]; omega)
      simp at e'
      obtain ⟨rfl, rfl⟩ := e'
      have F1 : IntKind.i64.wrap ((k : Int) - 1) = (j : Int) := by rw [IntWalk.i64_in _ (by omega)]; omega
      have F2 : IntKind.i64.wrap ((k : Int) + 1) = ((k + 1 : Nat) : Int) := by rw [IntWalk.i64_in _ (by omega)]; omega
      have F3 : (j : Int) < (n : Int) := by omega
      have hbl := geqS (pat xs j).1 (pat xs k).1
      have hdd : ∀ z, (w.drewN q).drewN z = w.drewN (q + z) := fun z => by simp [World.drewN, Nat.add_assoc]
      have HDD := Lib.hid hdd
      have HK := Lib.hid hk
      clear hdd hk
      generalize hW : w.drewN q = W at *
      clear hW
      cases hv : ltB (pat xs j).1 (pat xs k).1 with
      | true =>
        have S : Hid (risesB xs = risesB (xs.drop k)) := Lib.hid (by
          rw [hE.out, hd.out, ← HK.out, hv]; rfl)
        rw [hv] at hbl
        go_wp2_with fail
        go_quiet (fail)
        go_wp2_with fail
        exact ⟨⟨k, by go_num, by have := HK.out; omega, S, _, HDD.out nq⟩, by simp [intOf]; omega⟩
      | false =>
        have S : Hid (risesB xs = false) := Lib.hid (by
          rw [hE.out, hd.out, ← HK.out, hv]; rfl)
        rw [hv] at hbl
        go_wp2_with fail
        go_quiet (fail)
        go_wp2_with fail
        go_ret
        rw [S.out]
        exact ⟨rfl, _, HDD.out nq⟩
    · have S := Lib.hid (hE.out.trans (rises_end xs j (by rw [← HX.out]; omega)))
      go_wp2_with fail
      go_ret
      rw [S.out]
      exact ⟨rfl, q, rfl⟩
end Go.Proofs.Ytfipifjlmepooaa
