/- Which of two keys is less, as the reference tells it. -/
import Derived.Test.YtgldgdpgbfejmaaPe
namespace Go.Proofs.Ytgldgdpgbfejmaa
open Go.RowKit Go.Lib
set_option linter.unusedVariables false
set_option linter.unusedSimpArgs false
theorem cb_app (p u v : List UInt8) : compareBytes (p ++ u) (p ++ v) = compareBytes u v := by
  induction p with
  | nil => rfl
  | cons x p ih =>
    have : ¬ x < x := UInt8.lt_irrefl x
    simp [compareBytes, this, ih]
theorem cb_at {a b : List UInt8} {i : Nat} (h : a.take i = b.take i) : compareBytes a b = compareBytes (a.drop i) (b.drop i) := by
  have := cb_app (a.take i) (a.drop i) (b.drop i)
  rw [List.take_append_drop, h, List.take_append_drop] at this
  exact this
/-- whether one key is less than another -/
def ltB (a b : ByteArray) : Bool := decide (cmpS a b < 0)
theorem ltB_diff {a b : ByteArray} {i : Nat} (h : a.data.toList.take i = b.data.toList.take i) (ha : i < a.data.toList.length) (hb : i < b.data.toList.length) (hne : a.data.toList[i] ≠ b.data.toList[i]) : ltB a b = decide (a.data.toList[i] < b.data.toList[i]) := by
  unfold ltB cmpS
  rw [cb_at h, List.drop_eq_getElem_cons ha, List.drop_eq_getElem_cons hb]
  generalize a.data.toList[i] = x at *
  generalize b.data.toList[i] = y at *
  simp only [compareBytes]
  by_cases h1 : x < y
  · simp [h1]
  · have h2 : y < x := UInt8.lt_of_le_of_ne (UInt8.not_lt.1 h1) (Ne.symm hne)
    simp [h1, h2]
theorem cb_ends {la lb : List UInt8} {i : Nat} (h : la.take i = lb.take i) (hi : i = la.length ∨ i = lb.length) (hia : i ≤ la.length) (hib : i ≤ lb.length) : decide (compareBytes la lb < 0) = decide (la.length < lb.length) := by
  rw [cb_at h]
  have h1 : (la.drop i).length = la.length - i := List.length_drop
  have h2 : (lb.drop i).length = lb.length - i := List.length_drop
  rcases hi with e | e
  · rw [List.drop_of_length_le (l := la) (by omega)]
    cases hd : lb.drop i with
    | nil =>
      rw [hd] at h2
      have : ¬ la.length < lb.length := by simp at h2; omega
      simp [compareBytes, this]
    | cons y r =>
      rw [hd] at h2
      have : la.length < lb.length := by simp at h2; omega
      simp [compareBytes, this]
  · rw [List.drop_of_length_le (l := lb) (by omega)]
    have : ¬ la.length < lb.length := by omega
    cases hd : la.drop i with
    | nil => simp [compareBytes, this]
    | cons y r => simp [compareBytes, this]
theorem ltB_end {a b : ByteArray} {i : Nat} (h : a.data.toList.take i = b.data.toList.take i) (hi : i = a.size ∨ i = b.size) (hia : i ≤ a.size) (hib : i ≤ b.size) : ltB a b = decide (a.size < b.size) :=
  cb_ends h hi hia hib
theorem byte_at (a : ByteArray) (i : Nat) (h : i < a.size) : a.data.toList[i]'h = a[i] := rfl
theorem ltB_at {a b : ByteArray} {i : Nat} (h : a.data.toList.take i = b.data.toList.take i) (ha : i < a.size) (hb : i < b.size) (hne : a[i] ≠ b[i]) : ltB a b = decide (a[i].toNat < b[i].toNat) := by
  have := ltB_diff h ha hb hne
  rw [this]
  rw [decide_eq_decide]
  show a[i] < b[i] ↔ _
  rw [UInt8.lt_iff_toNat_lt]
theorem take_at {a b : ByteArray} {i : Nat} (h : a.data.toList.take i = b.data.toList.take i) (ha : i < a.size) (hb : i < b.size) (he : a[i] = b[i]) : a.data.toList.take (i + 1) = b.data.toList.take (i + 1) := by
  have l1 : i < a.data.toList.length := ha
  have l2 : i < b.data.toList.length := hb
  rw [List.take_succ_eq_append_getElem l1, List.take_succ_eq_append_getElem l2, h]
  congr 2
theorem drew3 (w : World) (x y z : Nat) : ∃ n, ((w.drewN x).drewN y).drewN z = w.drewN n := ⟨x + y + z, by simp [World.drewN, Nat.add_assoc]⟩
set_option maxRecDepth 100000 in
set_option maxHeartbeats 4000000 in
theorem less_any (a b : ByteArray) (w : World) (ha : a.size ≤ maxLen) (hb : b.size ≤ maxLen) : Calls Try.prog 44 #[.string a, .string b] w fun e w' => e = .returned (.bool (ltB a b)) ∧ ∃ n, w' = w.drewN n := by
  unfold maxLen at ha hb
  go_enter Try.func44, Try.ntmps44
  go_wp2_with fail
  go_loopw [5] (fun v wr => ∃ i : Nat, v = .int .i64 i ∧ i ≤ a.size ∧ i ≤ b.size ∧ Hid (a.data.toList.take i = b.data.toList.take i) ∧ ∃ q, wr = w.drewN q) (fun v wr => a.size - (intOf v).toNat)
  case atStart => exact ⟨0, rfl, by omega, by omega, Lib.hid rfl, 0, rfl⟩
  case round =>
    obtain ⟨i, rfl, hia, hib, hE, q, rfl⟩ := hrel
    by_cases h1 : i < a.size
    · have E1 : IntKind.i64.wrap ((i : Int) + 1) = ((i + 1 : Nat) : Int) := by rw [IntWalk.i64_in _ (by omega)]; omega
      by_cases h2 : i < b.size
      · have hd : ∀ k, (w.drewN q).drewN k = w.drewN (q + k) := fun k => by simp [World.drewN, Nat.add_assoc]
        have HD := Lib.hid hd
        clear hd
        by_cases he : a[i] = b[i]
        · have T : (((a[i].toNat : Nat) : Int) != ((b[i].toNat : Nat) : Int)) = false := by rw [he]; simp
          have S := Lib.hid (take_at hE.out h1 h2 he)
          clear he
          go_wp2_with fail
          go_quiet (fail)
          go_wp2_with fail
          exact ⟨⟨i + 1, by go_num, by omega, by omega, S, _, rfl⟩, by simp [intOf]; omega⟩
        · have T : (((a[i].toNat : Nat) : Int) != ((b[i].toNat : Nat) : Int)) = true := by
            rw [bne_iff_ne]
            intro hc
            exact he (UInt8.toNat_inj.1 (by omega))
          have S := Lib.hid (ltB_at hE.out h1 h2 he)
          clear he
          go_wp2_with fail
          go_quiet (fail)
          go_wp2_with fail
          go_quiet (fail)
          go_wp2_with fail
          go_ret
          rw [S.out]
          exact ⟨rfl, drew3 _ _ _ _⟩
      · have S := Lib.hid (ltB_end hE.out (.inr (by omega)) hia hib)
        go_wp2_with fail
        go_ret
        rw [S.out]
        exact ⟨by simp, q, rfl⟩
    · have S := Lib.hid (ltB_end hE.out (.inl (by omega)) hia hib)
      go_wp2_with fail
      go_ret
      rw [S.out]
      exact ⟨by simp, q, rfl⟩
end Go.Proofs.Ytgldgdpgbfejmaa
