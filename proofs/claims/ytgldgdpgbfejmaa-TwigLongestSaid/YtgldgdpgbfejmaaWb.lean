/- What the calls of package twig and of its reference return: Common, Begins, Cut, Less, Between. -/
import Derived.Test.YtgldgdpgbfejmaaWa
import Derived.Test.YtgldgdpgbfejmaaProg
import Derived.WalkKit
import Derived.Lib.Hide
import Derived.Below
import Derived.Deep.Cut
import Derived.Deep.QuietTactic
import Derived.BigQuiet
import Derived.IntWalk
import Derived.Laws.StructEq
import Derived.Laws.Strings
import Derived.Laws.Cover1
namespace Go.Proofs.Ytgldgdpgbfejmaa
open Go.RowKit Go.Lib
set_option linter.unusedVariables false
set_option linter.unusedSimpArgs false

/-- how far two strings go together -/
def cm (a b : ByteArray) : Nat := cmn a.data.toList b.data.toList
/-- whether one string is less than another -/
def ltB (a b : ByteArray) : Bool := decide (compareBytes a.data.toList b.data.toList < 0)
/-- whether one string begins with another -/
def bgB (s p : ByteArray) : Bool := decide (p.data.toList <+: s.data.toList)
theorem ltB_iff (a b : ByteArray) : ltB a b = true ↔ lt a.data.toList b.data.toList := by unfold ltB lt; simp
theorem bgB_iff (s p : ByteArray) : bgB s p = true ↔ p.data.toList <+: s.data.toList := by unfold bgB; simp
theorem cm_le (a b : ByteArray) : cm a b ≤ a.size ∧ cm a b ≤ b.size := cmn_le _ _
theorem bgB_cm (s p : ByteArray) : bgB s p = decide (cm s p = p.size) := by
  unfold bgB cm
  rw [decide_eq_decide]
  exact (cmn_begins _ _).symm
theorem byte_at (a : ByteArray) (i : Nat) (h : i < a.size) : a.data.toList[i]'h = a[i] := rfl
theorem take_at {a b : ByteArray} {i : Nat} (h : a.data.toList.take i = b.data.toList.take i) (ha : i < a.size) (hb : i < b.size) (he : a[i] = b[i]) : a.data.toList.take (i + 1) = b.data.toList.take (i + 1) := by
  have l1 : i < a.data.toList.length := ha
  have l2 : i < b.data.toList.length := hb
  rw [List.take_succ_eq_append_getElem l1, List.take_succ_eq_append_getElem l2, h]
  congr 2
theorem cm_at {a b : ByteArray} {i : Nat} (h : a.data.toList.take i = b.data.toList.take i) (ha : i < a.size) (hb : i < b.size) (hne : a[i] ≠ b[i]) : cm a b = i :=
  cmn_diff h ha hb hne
theorem cm_end {a b : ByteArray} {i : Nat} (h : a.data.toList.take i = b.data.toList.take i) (hi : i = a.size ∨ i = b.size) (hia : i ≤ a.size) (hib : i ≤ b.size) : cm a b = i :=
  cmn_end h hia hib hi
theorem drew2 (w : World) (x y : Nat) : ∃ n, (w.drewN x).drewN y = w.drewN n := ⟨x + y, by simp [World.drewN, Nat.add_assoc]⟩
theorem drew3 (w : World) (x y z : Nat) : ∃ n, ((w.drewN x).drewN y).drewN z = w.drewN n := ⟨x + y + z, by simp [World.drewN, Nat.add_assoc]⟩
theorem ret_int {k : IntKind} {a b : Int} (h : a = b) : Ending.returned (.int k a) = .returned (.int k b) := by rw [h]

theorem ltB_diff {a b : ByteArray} {i : Nat} (h : a.data.toList.take i = b.data.toList.take i) (ha : i < a.data.toList.length) (hb : i < b.data.toList.length) (hne : a.data.toList[i] ≠ b.data.toList[i]) : ltB a b = decide (a.data.toList[i] < b.data.toList[i]) := by
  unfold ltB
  rw [cb_at h, List.drop_eq_getElem_cons ha, List.drop_eq_getElem_cons hb]
  generalize a.data.toList[i] = x at *
  generalize b.data.toList[i] = y at *
  simp only [compareBytes]
  by_cases h1 : x < y
  · simp [h1]
  · have h2 : y < x := UInt8.lt_of_le_of_ne (UInt8.not_lt.1 h1) (Ne.symm hne)
    simp [h1, h2]
theorem cb_ends {la lb : List UInt8} {i : Nat} (h : la.take i = lb.take i) (hi : i = la.length ∨ i = lb.length) (hia : i ≤ la.length) (hib : i ≤ lb.length) : decide (compareBytes la lb < 0) = decide (la.length < lb.length) := by
  rw [cb_at h]
  have h1 : (la.drop i).length = la.length - i := List.length_drop
  have h2 : (lb.drop i).length = lb.length - i := List.length_drop
  rcases hi with e | e
  · rw [List.drop_of_length_le (l := la) (by omega)]
    cases hd : lb.drop i with
    | nil =>
      rw [hd] at h2
      have : ¬ la.length < lb.length := by simp at h2; omega
      simp [compareBytes, this]
    | cons y r =>
      rw [hd] at h2
      have : la.length < lb.length := by simp at h2; omega
      simp [compareBytes, this]
  · rw [List.drop_of_length_le (l := lb) (by omega)]
    have : ¬ la.length < lb.length := by omega
    cases hd : la.drop i with
    | nil => simp [compareBytes, this]
    | cons y r => simp [compareBytes, this]
theorem ltB_end {a b : ByteArray} {i : Nat} (h : a.data.toList.take i = b.data.toList.take i) (hi : i = a.size ∨ i = b.size) (hia : i ≤ a.size) (hib : i ≤ b.size) : ltB a b = decide (a.size < b.size) :=
  cb_ends h hi hia hib
theorem ltB_at {a b : ByteArray} {i : Nat} (h : a.data.toList.take i = b.data.toList.take i) (ha : i < a.size) (hb : i < b.size) (hne : a[i] ≠ b[i]) : ltB a b = decide (a[i].toNat < b[i].toNat) := by
  have := ltB_diff h ha hb hne
  rw [this]
  rw [decide_eq_decide]
  show a[i] < b[i] ↔ _
  rw [UInt8.lt_iff_toNat_lt]
set_option maxRecDepth 100000 in
set_option maxHeartbeats 4000000 in
theorem common_any (a b : ByteArray) (w : World) (ha : a.size ≤ maxLen) (hb : b.size ≤ maxLen) : Calls Try.prog 37 #[.string a, .string b] w fun e w' => e = .returned (.int .i64 (cm a b : Nat)) ∧ ∃ n, w' = w.drewN n := by
  unfold maxLen at ha hb
  go_enter Try.func37, Try.ntmps37
  go_wp2_with fail
  go_loopw [5] (fun v wr => ∃ i : Nat, v = .int .i64 i ∧ i ≤ a.size ∧ i ≤ b.size ∧ Hid (a.data.toList.take i = b.data.toList.take i) ∧ ∃ q, wr = w.drewN q) (fun v wr => a.size - (intOf v).toNat)
  case atStart => exact ⟨0, rfl, by omega, by omega, Lib.hid rfl, 0, rfl⟩
  case round =>
    obtain ⟨i, rfl, hia, hib, hE, q, rfl⟩ := hrel
    by_cases h1 : i < a.size
    · have E1 : IntKind.i64.wrap ((i : Int) + 1) = ((i + 1 : Nat) : Int) := by rw [IntWalk.i64_in _ (by omega)]; omega
      by_cases h2 : i < b.size
      · by_cases he : a[i] = b[i]
        · have T : (((a[i].toNat : Nat) : Int) == ((b[i].toNat : Nat) : Int)) = true := by rw [he]; simp
          have S := Lib.hid (take_at hE.out h1 h2 he)
          clear he
          go_wp2_with fail
          go_quiet (fail)
          go_wp2_with fail
          exact ⟨⟨i + 1, by go_num, by omega, by omega, S, _, rfl⟩, by simp [intOf]; omega⟩
        · have T : (((a[i].toNat : Nat) : Int) == ((b[i].toNat : Nat) : Int)) = false := by
            rw [beq_eq_false_iff_ne]
            intro hc
            exact he (UInt8.toNat_inj.1 (by omega))
          have S := Lib.hid (cm_at hE.out h1 h2 he)
          clear he
          go_wp2_with fail
          go_quiet (fail)
          go_wp2_with fail
          go_ret
          rw [S.out]
          exact ⟨rfl, drew2 _ _ _⟩
      · have S := Lib.hid (cm_end hE.out (.inr (by omega)) hia hib)
        go_wp2_with fail
        go_quiet (fail)
        go_wp2_with fail
        go_ret
        rw [S.out]
        exact ⟨rfl, drew2 _ _ _⟩
    · have S := Lib.hid (cm_end hE.out (.inl (by omega)) hia hib)
      go_wp2_with fail
      go_quiet (fail)
      go_wp2_with fail
      go_ret
      rw [S.out]
      exact ⟨rfl, drew2 _ _ _⟩
set_option maxRecDepth 100000 in
set_option maxHeartbeats 4000000 in
theorem refCommon_any (a b : ByteArray) (w : World) (ha : a.size ≤ maxLen) (hb : b.size ≤ maxLen) : Calls Try.prog 39 #[.string a, .string b] w fun e w' => e = .returned (.int .i64 (cm a b : Nat)) ∧ ∃ n, w' = w.drewN n := by
  unfold maxLen at ha hb
  go_enter Try.func39, Try.ntmps39
  go_wp2_with fail
  go_loopw [5] (fun v wr => ∃ i : Nat, v = .int .i64 i ∧ i ≤ a.size ∧ i ≤ b.size ∧ Hid (a.data.toList.take i = b.data.toList.take i) ∧ ∃ q, wr = w.drewN q) (fun v wr => a.size - (intOf v).toNat)
  case atStart => exact ⟨0, rfl, by omega, by omega, Lib.hid rfl, 0, rfl⟩
  case round =>
    obtain ⟨i, rfl, hia, hib, hE, q, rfl⟩ := hrel
    by_cases h1 : i < a.size
    · have E1 : IntKind.i64.wrap ((i : Int) + 1) = ((i + 1 : Nat) : Int) := by rw [IntWalk.i64_in _ (by omega)]; omega
      by_cases h2 : i < b.size
      · by_cases he : a[i] = b[i]
        · have T : (((a[i].toNat : Nat) : Int) == ((b[i].toNat : Nat) : Int)) = true := by rw [he]; simp
          have S := Lib.hid (take_at hE.out h1 h2 he)
          clear he
          go_wp2_with fail
          go_quiet (fail)
          go_wp2_with fail
          exact ⟨⟨i + 1, by go_num, by omega, by omega, S, _, rfl⟩, by simp [intOf]; omega⟩
        · have T : (((a[i].toNat : Nat) : Int) == ((b[i].toNat : Nat) : Int)) = false := by
            rw [beq_eq_false_iff_ne]
            intro hc
            exact he (UInt8.toNat_inj.1 (by omega))
          have S := Lib.hid (cm_at hE.out h1 h2 he)
          clear he
          go_wp2_with fail
          go_quiet (fail)
          go_wp2_with fail
          go_ret
          rw [S.out]
          exact ⟨rfl, drew2 _ _ _⟩
      · have S := Lib.hid (cm_end hE.out (.inr (by omega)) hia hib)
        go_wp2_with fail
        go_quiet (fail)
        go_wp2_with fail
        go_ret
        rw [S.out]
        exact ⟨rfl, drew2 _ _ _⟩
    · have S := Lib.hid (cm_end hE.out (.inl (by omega)) hia hib)
      go_wp2_with fail
      go_quiet (fail)
      go_wp2_with fail
      go_ret
      rw [S.out]
      exact ⟨rfl, drew2 _ _ _⟩
set_option maxRecDepth 100000 in
set_option maxHeartbeats 4000000 in
theorem less_any (a b : ByteArray) (w : World) (ha : a.size ≤ maxLen) (hb : b.size ≤ maxLen) : Calls Try.prog 44 #[.string a, .string b] w fun e w' => e = .returned (.bool (ltB a b)) ∧ ∃ n, w' = w.drewN n := by
  unfold maxLen at ha hb
  go_enter Try.func44, Try.ntmps44
  go_wp2_with fail
  go_loopw [5] (fun v wr => ∃ i : Nat, v = .int .i64 i ∧ i ≤ a.size ∧ i ≤ b.size ∧ Hid (a.data.toList.take i = b.data.toList.take i) ∧ ∃ q, wr = w.drewN q) (fun v wr => a.size - (intOf v).toNat)
  case atStart => exact ⟨0, rfl, by omega, by omega, Lib.hid rfl, 0, rfl⟩
  case round =>
    obtain ⟨i, rfl, hia, hib, hE, q, rfl⟩ := hrel
    by_cases h1 : i < a.size
    · have E1 : IntKind.i64.wrap ((i : Int) + 1) = ((i + 1 : Nat) : Int) := by rw [IntWalk.i64_in _ (by omega)]; omega
      by_cases h2 : i < b.size
      · have hd : ∀ k, (w.drewN q).drewN k = w.drewN (q + k) := fun k => by simp [World.drewN, Nat.add_assoc]
        have HD := Lib.hid hd
        clear hd
        by_cases he : a[i] = b[i]
        · have T : (((a[i].toNat : Nat) : Int) != ((b[i].toNat : Nat) : Int)) = false := by rw [he]; simp
          have S := Lib.hid (take_at hE.out h1 h2 he)
          clear he
          go_wp2_with fail
          go_quiet (fail)
          go_wp2_with fail
          exact ⟨⟨i + 1, by go_num, by omega, by omega, S, _, rfl⟩, by simp [intOf]; omega⟩
        · have T : (((a[i].toNat : Nat) : Int) != ((b[i].toNat : Nat) : Int)) = true := by
            rw [bne_iff_ne]
            intro hc
            exact he (UInt8.toNat_inj.1 (by omega))
          have S := Lib.hid (ltB_at hE.out h1 h2 he)
          clear he
          go_wp2_with fail
          go_quiet (fail)
          go_wp2_with fail
          go_quiet (fail)
          go_wp2_with fail
          go_ret
          rw [S.out]
          exact ⟨rfl, drew3 _ _ _ _⟩
      · have S := Lib.hid (ltB_end hE.out (.inr (by omega)) hia hib)
        go_wp2_with fail
        go_ret
        rw [S.out]
        exact ⟨by simp, q, rfl⟩
    · have S := Lib.hid (ltB_end hE.out (.inl (by omega)) hia hib)
      go_wp2_with fail
      go_ret
      rw [S.out]
      exact ⟨by simp, q, rfl⟩

theorem bytes_ext {a b : ByteArray} (h : a.data.toList = b.data.toList) : a = b := by
  obtain ⟨a⟩ := a
  obtain ⟨b⟩ := b
  congr 1
  exact Array.ext' h
theorem ext_to (s : ByteArray) (k : Nat) : (s.extract 0 k).data.toList = s.data.toList.take k := by
  rw [ByteArray.data_extract]; simp
theorem ext_from (s : ByteArray) (k : Nat) : (s.extract k s.size).data.toList = s.data.toList.drop k := by
  rw [ByteArray.data_extract]
  simp only [Array.toList_extract, List.extract_eq_take_drop]
  rw [List.take_of_length_le]
  rw [List.length_drop]
  exact Nat.le_refl _
theorem bg_yes (s p : ByteArray) : ((s.extract 0 p.size).toList == p.toList) = bgB s p := by
  rw [ByteArray.toList_eq, ByteArray.toList_eq, ext_to, Bool.eq_iff_iff, beq_iff_eq, bgB_iff, List.prefix_iff_eq_take]
  exact eq_comm
theorem bg_no (s p : ByteArray) (h : ¬ p.size ≤ s.size) : bgB s p = false := by
  rw [Bool.eq_false_iff]
  intro hb
  have := ((bgB_iff s p).1 hb).length_le
  exact h this
set_option maxRecDepth 100000 in
theorem prefix81 (s p : ByteArray) (w : World) (hs : s.size ≤ maxLen) (hp : p.size ≤ maxLen) : Calls Try.prog 81 #[.string s, .string p] w fun e w' => e = .returned (.bool (bgB s p)) ∧ w = w' := by
  unfold maxLen at hs hp
  by_cases h : p.size ≤ s.size
  · have S := Lib.hid (bg_yes s p)
    go_enter Try.func81, Try.ntmps81
    go_wp2_with fail
    go_ret
    rw [← S.out]
    exact ⟨rfl, rfl⟩
  · have S := Lib.hid (bg_no s p h)
    go_enter Try.func81, Try.ntmps81
    go_wp2_with fail
    go_ret
    rw [S.out]
    exact ⟨rfl, rfl⟩
theorem prefix66 (s p : ByteArray) (w : World) (hs : s.size ≤ maxLen) (hp : p.size ≤ maxLen) : Calls Try.prog 66 #[.string s, .string p] w fun e w' => e = .returned (.bool (bgB s p)) ∧ w = w' := by
  go_enter Try.func66, Try.ntmps66
  go_wp2_with (go_at_call 81; refine (prefix81 s p _ hs hp).mono ?_; rintro e w' ⟨rfl, rfl⟩)
  go_ret
  exact ⟨rfl, rfl⟩
theorem begins_any (s p : ByteArray) (w : World) (hs : s.size ≤ maxLen) (hp : p.size ≤ maxLen) : Calls Try.prog 40 #[.string s, .string p] w fun e w' => e = .returned (.bool (bgB s p)) ∧ w = w' := by
  go_enter Try.func40, Try.ntmps40
  go_wp2_with (go_at_call 66; refine (prefix66 s p _ hs hp).mono ?_; rintro e w' ⟨rfl, rfl⟩)
  go_ret
  exact ⟨rfl, rfl⟩
theorem cast_beq (a b : Nat) : ((a : Int) == (b : Int)) = decide (a = b) := by
  rw [Bool.eq_iff_iff]; simp; omega
theorem refBegins_any (s p : ByteArray) (w : World) (hs : s.size ≤ maxLen) (hp : p.size ≤ maxLen) : Calls Try.prog 41 #[.string s, .string p] w fun e w' => e = .returned (.bool (bgB s p)) ∧ ∃ n, w' = w.drewN n := by
  have S := Lib.hid (bgB_cm s p)
  go_enter Try.func41, Try.ntmps41
  go_wp2_with (go_at_call 39; refine (refCommon_any s p _ hs hp).mono ?_; rintro e w' ⟨rfl, n, rfl⟩)
  go_ret
  rw [S.out]
  exact ⟨by rw [cast_beq]; rfl, _, rfl⟩
/-- what stands behind a beginning; nothing, if it is none -/
def restS (s p : ByteArray) : ByteArray := if bgB s p then s.extract p.size s.size else ByteArray.empty
set_option maxRecDepth 100000 in
theorem cut_any (s p : ByteArray) (w : World) (hs : s.size ≤ maxLen) (hp : p.size ≤ maxLen) : Calls Try.prog 38 #[.string s, .string p] w fun e w' => e = .returned (.tuple #[.string (restS s p), .bool (bgB s p)]) ∧ w = w' := by
  have ha := hs
  have hb := hp
  unfold maxLen at hs hp
  unfold restS
  rcases hB : bgB s p with _ | _
  · have S := Lib.hid hB
    clear hB
    go_enter Try.func38, Try.ntmps38
    go_wp2_with (go_at_call 40; refine (begins_any s p _ ha hb).mono ?_; rw [S.out]; rintro e w' ⟨rfl, rfl⟩)
    go_ret2
    exact ⟨rfl, rfl⟩
  · have S := Lib.hid hB
    have hl : p.size ≤ s.size := ((bgB_iff s p).1 hB).length_le
    clear hB
    go_enter Try.func38, Try.ntmps38
    go_wp2_with (go_at_call 40; refine (begins_any s p _ ha hb).mono ?_; rw [S.out]; rintro e w' ⟨rfl, rfl⟩)
    go_ret2
    exact ⟨rfl, rfl⟩
/-- whether one lies between two -/
def btB (s a b : ByteArray) : Bool := !ltB s a && ltB s b
theorem refBetween_any (s a b : ByteArray) (w : World) (hs : s.size ≤ maxLen) (ha : a.size ≤ maxLen) (hb : b.size ≤ maxLen) : Calls Try.prog 45 #[.string s, .string a, .string b] w fun e w' => e = .returned (.bool (btB s a b)) ∧ ∃ n, w' = w.drewN n := by
  unfold btB
  rcases hA : ltB s a with _ | _
  · have S := Lib.hid hA
    clear hA
    go_enter Try.func45, Try.ntmps45
    go_wp2_with fail
    refine (less_any s a _ hs ha).mono ?_
    rw [S.out]
    rintro e w' ⟨rfl, n, rfl⟩
    go_wp2_with fail
    refine (less_any s b _ hs hb).mono ?_
    rintro e w' ⟨rfl, n', rfl⟩
    go_wp2_with fail
    go_ret
    exact ⟨rfl, _, rfl⟩
  · have S := Lib.hid hA
    clear hA
    go_enter Try.func45, Try.ntmps45
    go_wp2_with fail
    refine (less_any s a _ hs ha).mono ?_
    rw [S.out]
    rintro e w' ⟨rfl, n, rfl⟩
    go_wp2_with fail
    go_ret
    exact ⟨rfl, _, rfl⟩
theorem less_lt (x y : List UInt8) : Op.bytesLess x y = decide (compareBytes x y < 0) := by
  induction x generalizing y with
  | nil => cases y <;> simp [Op.bytesLess, compareBytes]
  | cons a x ih =>
    cases y with
    | nil => simp [Op.bytesLess, compareBytes]
    | cons b y =>
      rw [Bool.eq_iff_iff, decide_eq_true_eq]
      show _ ↔ lt (a :: x) (b :: y)
      rw [lt_cons]
      simp only [Op.bytesLess, ih, Bool.or_eq_true, Bool.and_eq_true, decide_eq_true_eq, beq_iff_eq]
      rfl
theorem less_str (a b : ByteArray) : Op.bytesLess a.toList b.toList = ltB a b := by
  rw [less_lt, ByteArray.toList_eq, ByteArray.toList_eq]; rfl
theorem leq_str (a b : ByteArray) : (Op.bytesLess a.toList b.toList || a.toList == b.toList) = !ltB b a := by
  rw [less_str, ByteArray.toList_eq, ByteArray.toList_eq, Bool.eq_iff_iff]
  simp only [Bool.or_eq_true, Bool.not_eq_true', beq_iff_eq]
  rw [Bool.eq_false_iff]
  show _ ↔ ¬ (ltB b a = true)
  rw [ltB_iff, ltB_iff]
  constructor
  · rintro (h | h) h2
    · exact lt_asymm h h2
    · rw [h] at h2; exact lt_irrefl _ h2
  · intro h
    rcases lt_total a.data.toList b.data.toList with h1 | h1 | h1
    · exact .inl h1
    · exact .inr h1
    · exact absurd h1 h
theorem between_any (s a b : ByteArray) (w : World) : Calls Try.prog 46 #[.string s, .string a, .string b] w fun e w' => e = .returned (.bool (btB s a b)) ∧ w = w' := by
  unfold btB
  have S2 := Lib.hid (less_str s b)
  rcases hA : ltB s a with _ | _
  · have S : (Op.bytesLess a.toList s.toList || a.toList == s.toList) = true := by rw [leq_str, hA]; rfl
    clear hA
    go_enter Try.func46, Try.ntmps46
    go_wp2_with fail
    go_ret
    rw [← S2.out]
    exact ⟨rfl, rfl⟩
  · have S : (Op.bytesLess a.toList s.toList || a.toList == s.toList) = false := by rw [leq_str, hA]; rfl
    clear hA
    go_enter Try.func46, Try.ntmps46
    go_wp2_with fail
    go_ret
    exact ⟨rfl, rfl⟩
theorem fewS_eq (s : ByteArray) (h : (s.size : Int) ≤ 60) : s.extract 0 (min s.size 60) = s := bytes_ext (by
  rw [ext_to, List.take_of_length_le]
  show s.size ≤ _
  omega)
theorem few_any (s : ByteArray) (w : World) (hs : s.size ≤ maxLen) : Calls Try.prog 36 #[.string s] w fun e w' => e = .returned (.string (s.extract 0 (min s.size 60))) ∧ w = w' := by
  unfold maxLen at hs
  by_cases h : (s.size : Int) ≤ 60
  · have S := Lib.hid (fewS_eq s h)
    go_enter Try.func36, Try.ntmps36
    go_wp2_with fail
    go_ret
    rw [S.out]
    exact ⟨rfl, rfl⟩
  · have S := Lib.hid (show min s.size 60 = 60 by omega)
    have h' : (60 : Int) < s.size := by omega
    clear h
    go_enter Try.func36, Try.ntmps36
    go_wp2_with fail
    go_ret
    rw [S.out]
    exact ⟨rfl, rfl⟩
theorem few_size (s : ByteArray) : (s.extract 0 (min s.size 60)).size ≤ 60 := by simp; omega
end Go.Proofs.Ytgldgdpgbfejmaa
