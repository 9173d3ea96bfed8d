/- What the functions of package chunk, and the reference's At, return, as contracts of their translations: for every argument. -/
import Derived.Test.YtfmbikmpobieoaaProg
import Derived.WalkKit
import Derived.Lib.Hide
import Derived.Deep.QuietTactic
import Derived.BigQuiet
namespace Go.Proofs.Ytfmbikmpobieoaa
open Go.RowKit
set_option linter.unusedVariables false
set_option maxRecDepth 100000
set_option maxRecDepth 100000

theorem ret_int {k : IntKind} {a b : Int} (h : a = b) : Ending.returned (.int k a) = .returned (.int k b) := by rw [h]
/-- how many of the lowest n bits are set -/
def cnt : Nat → Nat → Nat
  | 0, _ => 0
  | n + 1, b => b % 2 + cnt n (b / 2)
theorem cnt_le (n b : Nat) : cnt n b ≤ n := by
  induction n generalizing b with
  | zero => simp [cnt]
  | succ n ih => have := ih (b / 2); simp only [cnt]; omega
theorem cnt_add (m n b : Nat) : cnt (m + n) b = cnt m b + cnt n (b / 2 ^ m) := by
  induction m generalizing b with
  | zero => simp [cnt]
  | succ m ih =>
    rw [show m + 1 + n = (m + n) + 1 by omega]
    simp only [cnt]
    rw [ih, Nat.div_div_eq_div_mul, Nat.pow_succ', Nat.add_assoc]
theorem cnt_mod (n b : Nat) : cnt n (b % 2 ^ n) = cnt n b := by
  induction n generalizing b with
  | zero => simp [cnt]
  | succ n ih =>
    simp only [cnt]
    rw [Nat.pow_succ', Nat.mod_mul_right_mod, Nat.mod_mul_right_div_self, ih]
theorem cnt_32 (b : Nat) (h : b < 4294967296) : cnt 32 b = cnt 8 (b / 16777216) + cnt 8 (b / 65536 % 256) + cnt 8 (b / 256 % 256) + cnt 8 (b % 256) := by
  have e1 := cnt_mod 8 (b / 65536)
  have e2 := cnt_mod 8 (b / 256)
  have e3 := cnt_mod 8 b
  simp only [Nat.reducePow] at e1 e2 e3
  rw [e1, e2, e3]
  rw [show 32 = 8 + (8 + (8 + 8)) from rfl]
  simp only [cnt_add, Nat.div_div_eq_div_mul, Nat.reducePow, Nat.reduceMul]
  omega
def popList : List UInt8 := (List.range 256).map fun i => (cnt 8 i).toUInt8

theorem pop_at (s : ByteArray) (hs : s.data.toList = popList) (i : Nat) (h : i < s.size) : (s[i]'h).toNat = cnt 8 i := by
  have h1 : i < s.data.toList.length := by simpa using h
  have e : s[i]'h = s.data.toList[i]'h1 := rfl
  rw [e]
  simp only [hs]
  have : cnt 8 i < 256 := by have := cnt_le 8 i; omega
  simp [popList, Nat.toUInt8]
  exact this
theorem pop_size (s : ByteArray) (hs : s.data.toList = popList) : s.size = 256 := by
  have : s.data.toList.length = s.size := by simp
  rw [← this, hs]; simp [popList]

theorem quiet_pop {P : Program} {C : World → Prop} {a : Act} {o : Oper} {K : Act → Prop} (t : TypeId) (s : ByteArray) (y : Operand) (k : IntKind) (i : Nat)
    (h : o.op = .index t (.const (.string s)) y) (hs : s.data.toList = popList) (he : a.eval y = .int k i) (hu : P.underlying t = some .string) (h1 : i < 256)
    (hk : K (a.put o.dst (.int .u8 (cnt 8 i)))) : o.quiet P a C K := by
  refine ⟨_, fun w _ => ?_, hk⟩
  unfold Oper.quietAt
  have hz := pop_size s hs
  have hp := pop_at s hs i (by omega)
  have hr := run_index_string (P := P) w t s k i hu
  rw [dif_pos (by omega)] at hr
  simp only [Int.toNat_natCast, hp] at hr
  simp [execOp, h, BigFrame.eval_const, he, hr, Oper.quietUpon]
theorem and255 (a : Nat) : a &&& 255 = a % 256 := Nat.and_two_pow_sub_one_eq_mod a 8
theorem bv32 (a : Nat) (ha : a < 4294967296) : (BitVec.ofInt 32 (a : Int)).toNat = a := by
  rw [BitVec.ofInt_natCast, BitVec.toNat_ofNat]; exact Nat.mod_eq_of_lt (by omega)
theorem and_u32 (a b : Nat) (ha : a < 4294967296) (hb : b < 4294967296) : bits .and .u32 (a : Int) (b : Int) = ((a &&& b : Nat) : Int) := by
  have hx : a &&& b < 2 ^ 32 := Nat.and_lt_two_pow _ (by omega)
  show IntKind.u32.wrap ((BitVec.ofInt 32 (a : Int) &&& BitVec.ofInt 32 (b : Int)).toNat : Int) = _
  rw [BitVec.toNat_and, bv32 a ha, bv32 b hb, IntKind.wrap_u32]
  omega
theorem or_u32 (a b : Nat) (ha : a < 4294967296) (hb : b < 4294967296) : bits .or .u32 (a : Int) (b : Int) = ((a ||| b : Nat) : Int) := by
  have hx : a ||| b < 2 ^ 32 := Nat.or_lt_two_pow (by omega) (by omega)
  show IntKind.u32.wrap ((BitVec.ofInt 32 (a : Int) ||| BitVec.ofInt 32 (b : Int)).toNat : Int) = _
  rw [BitVec.toNat_or, bv32 a ha, bv32 b hb, IntKind.wrap_u32]
  omega
theorem and255_u32 (x : Int) (h0 : 0 ≤ x) (ha : x < 4294967296) : bits .and .u32 x 255 = x % 256 := by
  obtain ⟨a, rfl⟩ := Int.eq_ofNat_of_zero_le h0
  have h := and_u32 a 255 (by omega) (by omega)
  rw [and255] at h
  exact h

set_option maxRecDepth 100000 in
set_option maxHeartbeats 400000 in
theorem ones_any (b : Nat) (w : World) (h1 : b < 4294967296) :
    Calls Try.prog 48 #[.int .u32 b] w fun e w' => e = .returned (.int .i64 (cnt 32 b)) ∧ ∃ n, w' = w.drewN n := by
  have E := Lib.hid (cnt_32 b h1)
  have c0 := cnt_le 8 (b / 16777216)
  have c1 := cnt_le 8 (b / 65536 % 256)
  have c2 := cnt_le 8 (b / 256 % 256)
  have c3 := cnt_le 8 (b % 256)
  have H1 := and255_u32 ((b : Int) / 65536) (by omega) (by omega)
  have H2 := and255_u32 ((b : Int) / 256) (by omega) (by omega)
  have H3 := and255_u32 (b : Int) (by omega) (by omega)
  have G1 := Lib.hid H1
  have G2 := Lib.hid H2
  have G3 := Lib.hid H3
  clear H1 H2 H3
  go_enter Try.func48, Try.ntmps48
  go_wp2_with fail
  refine wp_region_quiet_lit (by kernel_rfl) (by kernel_rfl) ?_
  go_big_quiet_step (fail)
  go_big_quiet_step (fail)
  go_big_quiet_want
  refine quiet_pop 9 _ _ .u32 (b / 16777216) rfl (by decide +kernel) rfl Try.underlying9 (by omega) ?_
  go_simp
  go_big_quiet_on
  go_big_quiet_step (fail)
  go_big_quiet_step (fail)
  go_big_quiet_step (fail)
  go_big_quiet_want
  refine quiet_pop 9 _ _ .u32 (b / 65536 % 256) rfl (by decide +kernel) (by simp [go_sem, G1.out]) Try.underlying9 (by omega) ?_
  go_simp
  go_big_quiet_on
  go_big_quiet_step (fail)
  go_big_quiet_step (fail)
  go_big_quiet_step (fail)
  go_big_quiet_step (fail)
  go_big_quiet_want
  refine quiet_pop 9 _ _ .u32 (b / 256 % 256) rfl (by decide +kernel) (by simp [go_sem, G2.out]) Try.underlying9 (by omega) ?_
  go_simp
  go_big_quiet_on
  go_big_quiet_step (fail)
  go_big_quiet_step (fail)
  go_big_quiet_step (fail)
  go_big_quiet_want
  refine quiet_pop 9 _ _ .u32 (b % 256) rfl (by decide +kernel) (by simp [go_sem, G3.out]) Try.underlying9 (by omega) ?_
  go_simp
  go_big_quiet_on
  repeat (go_big_quiet_step (fail))
  refine wpQuiet_nil ?_
  intro _ hw'
  obtain ⟨nq, hw''⟩ := hw'
  subst hw''
  go_wp2
  go_ret
  exact ⟨ret_int (by rw [E.out]; simp only [Int.natCast_add]), nq, rfl⟩
theorem pow32 (n : Nat) : (2 : Int) ^ (5 * n) = 32 ^ n := by
  rw [Int.pow_mul]; rfl

theorem atVal (h lv : Int) (h0 : 0 ≤ h) (hl : 0 ≤ lv) : wrap64 ((h / 2 ^ (5 * lv).toNat).tmod 32) = h / 32 ^ lv.toNat % 32 := by
  have e : (5 * lv).toNat = 5 * lv.toNat := by omega
  rw [e, pow32]
  have hp : (0 : Int) ≤ h / 32 ^ lv.toNat := Int.ediv_nonneg h0 (Int.le_of_lt (Int.pow_pos (by decide)))
  rw [Int.tmod_eq_emod_of_nonneg hp]
  generalize h / 32 ^ lv.toNat = x at hp
  unfold wrap64
  omega

set_option maxHeartbeats 400000 in
theorem at_no (h lv : Int) (w : World) (hl : lv < 0) :
    Calls Try.prog 34 #[.int .u64 h, .int .i64 lv] w fun e w' => e = .returned (.int .i64 0) ∧ w = w' := by
  go_enter Try.func34, Try.ntmps34
  go_wp2
  go_ret
  exact ⟨rfl, rfl⟩
set_option maxHeartbeats 400000 in
theorem at_no2 (h lv : Int) (w : World) (hl : 13 ≤ lv) :
    Calls Try.prog 34 #[.int .u64 h, .int .i64 lv] w fun e w' => e = .returned (.int .i64 0) ∧ w = w' := by
  go_enter Try.func34, Try.ntmps34
  go_wp2
  go_ret
  exact ⟨rfl, rfl⟩
set_option maxHeartbeats 400000 in
theorem at_yes (h lv : Int) (w : World) (h0 : 0 ≤ h) (h1 : h < 18446744073709551616) (hl : 0 ≤ lv) (hl' : lv < 13) :
    Calls Try.prog 34 #[.int .u64 h, .int .i64 lv] w fun e w' => e = .returned (.int .i64 (h / 32 ^ lv.toNat % 32)) ∧ w = w' := by
  go_enter Try.func34, Try.ntmps34
  go_wp2
  go_ret
  exact ⟨ret_int (atVal h lv h0 hl), rfl⟩

/-- what chunk.At tells -/
def atZ (h lv : Int) : Int := if lv < 0 ∨ 13 ≤ lv then 0 else (h / 32 ^ lv.toNat) % 32
theorem at_any (h lv : Int) (w : World) (h0 : 0 ≤ h) (h1 : h < 18446744073709551616) :
    Calls Try.prog 34 #[.int .u64 h, .int .i64 lv] w fun e w' => e = .returned (.int .i64 (atZ h lv)) ∧ w = w' := by
  by_cases c : lv < 0
  · rw [show atZ h lv = 0 by simp [atZ, c]]; exact at_no h lv w c
  · by_cases c2 : 13 ≤ lv
    · rw [show atZ h lv = 0 by simp [atZ, c2]]; exact at_no2 h lv w c2
    · rw [show atZ h lv = (h / 32 ^ lv.toNat) % 32 by simp [atZ, c, c2]]; exact at_yes h lv w h0 h1 (by omega) (by omega)

theorem div32 (h : Int) (k : Nat) : h / 32 ^ k / 32 = h / 32 ^ (k + 1) := by
  rw [Int.ediv_ediv_of_nonneg (Int.le_of_lt (Int.pow_pos (by decide))), Int.pow_succ]
theorem div32_nonneg (h : Int) (k : Nat) (h0 : 0 ≤ h) : 0 ≤ h / 32 ^ k := Int.ediv_nonneg h0 (Int.le_of_lt (Int.pow_pos (by decide)))
theorem div32_le (h : Int) (k : Nat) (h0 : 0 ≤ h) : h / 32 ^ k ≤ h := by
  exact Int.ediv_le_self _ h0

/-- the set of i alone -/
def onl (i : Int) : Nat := if 0 ≤ i ∧ i < 32 then 2 ^ i.toNat else 0
theorem onl_lt (i : Int) : onl i < 4294967296 := by
  unfold onl
  split
  · have : 2 ^ i.toNat < 2 ^ 32 := Nat.pow_lt_pow_right (by decide) (by omega)
    omega
  · decide

theorem pow_u32 (n : Nat) (h : n < 32) : (2 : Int) ^ n % 4294967296 = ((2 ^ n : Nat) : Int) := by
  have h2 : 2 ^ n < 2 ^ 32 := Nat.pow_lt_pow_right (by decide) h
  have e : ((2 ^ n : Nat) : Int) = (2 : Int) ^ n := by simp
  rw [← e]
  generalize 2 ^ n = x at h2 ⊢
  omega
set_option maxHeartbeats 400000 in
theorem only_no (i : Int) (w : World) (h : i < 0) :
    Calls Try.prog 47 #[.int .i64 i] w fun e w' => e = .returned (.int .u32 0) ∧ w = w' := by
  go_enter Try.func47, Try.ntmps47
  go_wp2
  go_ret
  exact ⟨rfl, rfl⟩
set_option maxHeartbeats 400000 in
theorem only_no2 (i : Int) (w : World) (h : 32 ≤ i) :
    Calls Try.prog 47 #[.int .i64 i] w fun e w' => e = .returned (.int .u32 0) ∧ w = w' := by
  go_enter Try.func47, Try.ntmps47
  go_wp2
  go_ret
  exact ⟨rfl, rfl⟩
set_option maxHeartbeats 400000 in
theorem only_yes (n : Nat) (w : World) (h : n < 32) :
    Calls Try.prog 47 #[.int .i64 n] w fun e w' => e = .returned (.int .u32 (2 ^ n : Nat)) ∧ w = w' := by
  have E := Lib.hid (pow_u32 n h)
  go_enter Try.func47, Try.ntmps47
  go_wp2
  go_ret
  exact ⟨ret_int E.out, rfl⟩
theorem only_any (i : Int) (w : World) :
    Calls Try.prog 47 #[.int .i64 i] w fun e w' => e = .returned (.int .u32 (onl i)) ∧ w = w' := by
  by_cases c : i < 0
  · rw [show onl i = 0 by simp [onl]; omega]; exact only_no i w c
  · by_cases c2 : 32 ≤ i
    · rw [show onl i = 0 by simp [onl]; omega]; exact only_no2 i w c2
    · obtain ⟨n, rfl⟩ := Int.eq_ofNat_of_zero_le (by omega : 0 ≤ i)
      rw [show onl (n : Int) = 2 ^ n by simp [onl]; omega]; exact only_yes n w (by omega)

set_option maxHeartbeats 400000 in
theorem count_any (b : Nat) (w : World) (h1 : b < 4294967296) :
    Calls Try.prog 31 #[.int .u32 b] w fun e w' => e = .returned (.int .i64 (cnt 32 b)) ∧ ∃ n, w' = w.drewN n := by
  go_enter Try.func31, Try.ntmps31
  go_wp2_with (go_at_call 48; refine (ones_any _ _ h1).mono ?_; rintro e w' ⟨rfl, nq, rfl⟩)
  go_ret
  exact ⟨rfl, nq, rfl⟩

set_option maxHeartbeats 400000 in
theorem has_any (b : Nat) (i : Int) (w : World) (h1 : b < 4294967296) :
    Calls Try.prog 28 #[.int .u32 b, .int .i64 i] w fun e w' => e = .returned (.bool (b &&& onl i != 0)) ∧ w = w' := by
  have hb := onl_lt i
  have E := Lib.hid (and_u32 b (onl i) h1 hb)
  go_enter Try.func28, Try.ntmps28
  go_wp2_with (go_at_call 47; refine (only_any _ _).mono ?_; rintro e w' ⟨rfl, rfl⟩)
  go_ret
  refine ⟨?_, rfl⟩
  show Ending.returned (Value.bool (bits BinOp.and IntKind.u32 ↑b ↑(onl i) != 0)) = _
  rw [E.out]
  exact congrArg (fun x => Ending.returned (Value.bool x)) (by rw [Bool.eq_iff_iff]; simp)
set_option maxHeartbeats 400000 in
theorem with_any (b : Nat) (i : Int) (w : World) (h1 : b < 4294967296) :
    Calls Try.prog 85 #[.int .u32 b, .int .i64 i] w fun e w' => e = .returned (.int .u32 (b ||| onl i : Nat)) ∧ w = w' := by
  have hb := onl_lt i
  have E := Lib.hid (or_u32 b (onl i) h1 hb)
  go_enter Try.func85, Try.ntmps85
  go_wp2_with (go_at_call 47; refine (only_any _ _).mono ?_; rintro e w' ⟨rfl, rfl⟩)
  go_ret
  exact ⟨ret_int E.out, rfl⟩
/-- the set without those of another -/
def wo (b c : Nat) : Nat := b &&& (4294967295 - c)
theorem andNot_u32 (a b : Nat) (ha : a < 4294967296) (hb : b < 4294967296) : bits .andNot .u32 (a : Int) (b : Int) = (wo a b : Int) := by
  have hx : a &&& (4294967295 - b) < 2 ^ 32 := Nat.and_lt_two_pow _ (by omega)
  show IntKind.u32.wrap ((BitVec.ofInt 32 (a : Int) &&& ~~~ BitVec.ofInt 32 (b : Int)).toNat : Int) = _
  rw [BitVec.toNat_and, BitVec.toNat_not, bv32 a ha, bv32 b hb, IntKind.wrap_u32]
  unfold wo
  simp only [Nat.reducePow, Nat.reduceSub]
  omega
set_option maxHeartbeats 400000 in
theorem without_any (b : Nat) (i : Int) (w : World) (h1 : b < 4294967296) :
    Calls Try.prog 79 #[.int .u32 b, .int .i64 i] w fun e w' => e = .returned (.int .u32 (wo b (onl i))) ∧ w = w' := by
  have hb := onl_lt i
  have E := Lib.hid (andNot_u32 b (onl i) h1 hb)
  go_enter Try.func79, Try.ntmps79
  go_wp2_with (go_at_call 47; refine (only_any _ _).mono ?_; rintro e w' ⟨rfl, rfl⟩)
  go_ret
  exact ⟨ret_int E.out, rfl⟩

theorem cnt_zero (n : Nat) : cnt n 0 = 0 := by
  induction n with
  | zero => rfl
  | succ n ih => simp [cnt, ih]
theorem cnt_low (n m b : Nat) (h : n ≤ m) : cnt m (b % 2 ^ n) = cnt n b := by
  obtain ⟨k, rfl⟩ := Nat.exists_eq_add_of_le h
  rw [cnt_add, cnt_mod, Nat.div_eq_of_lt (Nat.mod_lt _ (Nat.two_pow_pos n)), cnt_zero]; rfl
theorem cnt_high (n b : Nat) (h : b < 4294967296) (hn : 32 ≤ n) : cnt n b = cnt 32 b := by
  have := cnt_low 32 n b hn
  rw [Nat.mod_eq_of_lt h] at this
  exact this
/-- how many numbers of the set are less than i -/
def rnk (b : Nat) (i : Int) : Nat := cnt i.toNat b
theorem low_u32 (b n : Nat) (h1 : b < 4294967296) (hn : n < 32) : bits .and .u32 (b : Int) (((onl n : Nat) - 1 : Int) % 4294967296) = ((b % 2 ^ n : Nat) : Int) := by
  have e : onl (n : Int) = 2 ^ n := by simp [onl]; omega
  have h2 : 2 ^ n < 2 ^ 32 := Nat.pow_lt_pow_right (by decide) hn
  have h3 : 0 < 2 ^ n := Nat.two_pow_pos n
  have h4 := and_u32 b (2 ^ n - 1) h1 (by omega)
  rw [Nat.and_two_pow_sub_one_eq_mod] at h4
  rw [e, ← h4]
  exact congrArg (bits .and .u32 (b : Int)) (by omega)

set_option maxHeartbeats 400000 in
theorem rank_lo (b : Nat) (i : Int) (w : World) (h : i ≤ 0) :
    Calls Try.prog 29 #[.int .u32 b, .int .i64 i] w fun e w' => e = .returned (.int .i64 0) ∧ w = w' := by
  go_enter Try.func29, Try.ntmps29
  go_wp2
  go_ret
  exact ⟨rfl, rfl⟩
set_option maxHeartbeats 400000 in
theorem rank_hi (b : Nat) (i : Int) (w : World) (h1 : b < 4294967296) (h : 32 ≤ i) :
    Calls Try.prog 29 #[.int .u32 b, .int .i64 i] w fun e w' => e = .returned (.int .i64 (cnt 32 b)) ∧ ∃ k, w' = w.drewN k := by
  go_enter Try.func29, Try.ntmps29
  go_wp2_with (go_at_call 31; refine (count_any _ _ h1).mono ?_; rintro e w' ⟨rfl, nq, rfl⟩)
  go_ret
  exact ⟨rfl, nq, rfl⟩
set_option maxHeartbeats 400000 in
theorem rank_mid (b n : Nat) (w : World) (h1 : b < 4294967296) (h0 : 0 < n) (hn : n < 32):
    Calls Try.prog 29 #[.int .u32 b, .int .i64 n] w fun e w' => e = .returned (.int .i64 (cnt n b)) ∧ ∃ k, w' = w.drewN k := by
  have E := Lib.hid (low_u32 b n h1 hn)
  have hlt : b % 2 ^ n < 4294967296 := Nat.lt_of_le_of_lt (Nat.mod_le _ _) h1
  have H := Lib.hid hlt
  clear hlt
  go_enter Try.func29, Try.ntmps29
  go_wp2_with (go_at_call 47; refine (only_any _ _).mono ?_; rintro e w' ⟨rfl, rfl⟩)
  rw [E.out]
  refine (count_any _ _ H.out).mono ?_
  rintro e w' ⟨rfl, nq, rfl⟩
  go_wp2
  go_ret
  exact ⟨ret_int (congrArg (fun x : Nat => (x : Int)) (cnt_low n 32 b (by omega))), nq, rfl⟩
theorem rank_any (b : Nat) (i : Int) (w : World) (h1 : b < 4294967296) :
    Calls Try.prog 29 #[.int .u32 b, .int .i64 i] w fun e w' => e = .returned (.int .i64 (rnk b i)) ∧ ∃ k, w' = w.drewN k := by
  by_cases c : i ≤ 0
  · rw [show rnk b i = 0 by unfold rnk; rw [show i.toNat = 0 by omega]; rfl]
    exact (rank_lo b i w c).mono fun e w' ⟨he, hw⟩ => ⟨he, 0, by rw [← hw]; rfl⟩
  · by_cases c2 : 32 ≤ i
    · rw [show rnk b i = cnt 32 b from cnt_high _ _ h1 (by omega)]; exact rank_hi b i w h1 c2
    · obtain ⟨n, rfl⟩ := Int.eq_ofNat_of_zero_le (by omega : 0 ≤ i)
      exact rank_mid b n w h1 (by omega) (by omega)

end Go.Proofs.Ytfmbikmpobieoaa
