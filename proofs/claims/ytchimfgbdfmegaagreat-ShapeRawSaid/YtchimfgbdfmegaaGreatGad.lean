/- What the functions of package chunk, and the reference's At, return, as contracts of their translations: for every argument. -/
import Derived.Test.YtchimfgbdfmegaaGreatProg
import Derived.WalkKit
import Derived.Lib.Hide
import Derived.Deep.QuietTactic
import Derived.BigQuiet
import Derived.Test.YtchimfgbdfmegaaGreatGac
import Derived.Test.YtchimfgbdfmegaaGreatGab
import Derived.Deep.RegionHeld3
import Derived.Deep.AppendLies
namespace Go.Proofs.YtchimfgbdfmegaaGreat
open Go.RowKit
set_option linter.unusedVariables false
set_option maxRecDepth 100000
set_option maxRecDepth 100000

theorem ret_int {k : IntKind} {a b : Int} (h : a = b) : Ending.returned (.int k a) = .returned (.int k b) := by rw [h]
/-- how many of the lowest n bits are set -/
def cnt : Nat → Nat → Nat
  | 0, _ => 0
  | n + 1, b => b % 2 + cnt n (b / 2)
theorem cnt_le (n b : Nat) : cnt n b ≤ n := by
  induction n generalizing b with
  | zero => simp [cnt]
  | succ n ih => have := ih (b / 2); simp only [cnt]; omega
theorem cnt_add (m n b : Nat) : cnt (m + n) b = cnt m b + cnt n (b / 2 ^ m) := by
  induction m generalizing b with
  | zero => simp [cnt]
  | succ m ih =>
    rw [show m + 1 + n = (m + n) + 1 by omega]
    simp only [cnt]
    rw [ih, Nat.div_div_eq_div_mul, Nat.pow_succ', Nat.add_assoc]
theorem cnt_mod (n b : Nat) : cnt n (b % 2 ^ n) = cnt n b := by
  induction n generalizing b with
  | zero => simp [cnt]
  | succ n ih =>
    simp only [cnt]
    rw [Nat.pow_succ', Nat.mod_mul_right_mod, Nat.mod_mul_right_div_self, ih]
theorem cnt_32 (b : Nat) (h : b < 4294967296) : cnt 32 b = cnt 8 (b / 16777216) + cnt 8 (b / 65536 % 256) + cnt 8 (b / 256 % 256) + cnt 8 (b % 256) := by
  have e1 := cnt_mod 8 (b / 65536)
  have e2 := cnt_mod 8 (b / 256)
  have e3 := cnt_mod 8 b
  simp only [Nat.reducePow] at e1 e2 e3
  rw [e1, e2, e3]
  rw [show 32 = 8 + (8 + (8 + 8)) from rfl]
  simp only [cnt_add, Nat.div_div_eq_div_mul, Nat.reducePow, Nat.reduceMul]
  omega
def popList : List UInt8 := (List.range 256).map fun i => (cnt 8 i).toUInt8

theorem pop_at (s : ByteArray) (hs : s.data.toList = popList) (i : Nat) (h : i < s.size) : (s[i]'h).toNat = cnt 8 i := by
  have h1 : i < s.data.toList.length := by simpa using h
  have e : s[i]'h = s.data.toList[i]'h1 := rfl
  rw [e]
  simp only [hs]
  have : cnt 8 i < 256 := by have := cnt_le 8 i; omega
  simp [popList, Nat.toUInt8]
  exact this
theorem pop_size (s : ByteArray) (hs : s.data.toList = popList) : s.size = 256 := by
  have : s.data.toList.length = s.size := by simp
  rw [← this, hs]; simp [popList]

theorem quiet_pop {P : Program} {C : World → Prop} {a : Act} {o : Oper} {K : Act → Prop} (t : TypeId) (s : ByteArray) (y : Operand) (k : IntKind) (i : Nat)
    (h : o.op = .index t (.const (.string s)) y) (hs : s.data.toList = popList) (he : a.eval y = .int k i) (hu : P.underlying t = some .string) (h1 : i < 256)
    (hk : K (a.put o.dst (.int .u8 (cnt 8 i)))) : o.quiet P a C K := by
  refine ⟨_, fun w _ => ?_, hk⟩
  unfold Oper.quietAt
  have hz := pop_size s hs
  have hp := pop_at s hs i (by omega)
  have hr := run_index_string (P := P) w t s k i hu
  rw [dif_pos (by omega)] at hr
  simp only [Int.toNat_natCast, hp] at hr
  simp [execOp, h, BigFrame.eval_const, he, hr, Oper.quietUpon]
theorem and255 (a : Nat) : a &&& 255 = a % 256 := Nat.and_two_pow_sub_one_eq_mod a 8
theorem bv32 (a : Nat) (ha : a < 4294967296) : (BitVec.ofInt 32 (a : Int)).toNat = a := by
  rw [BitVec.ofInt_natCast, BitVec.toNat_ofNat]; exact Nat.mod_eq_of_lt (by omega)
theorem and_u32 (a b : Nat) (ha : a < 4294967296) (hb : b < 4294967296) : bits .and .u32 (a : Int) (b : Int) = ((a &&& b : Nat) : Int) := by
  have hx : a &&& b < 2 ^ 32 := Nat.and_lt_two_pow _ (by omega)
  show IntKind.u32.wrap ((BitVec.ofInt 32 (a : Int) &&& BitVec.ofInt 32 (b : Int)).toNat : Int) = _
  rw [BitVec.toNat_and, bv32 a ha, bv32 b hb, IntKind.wrap_u32]
  omega
theorem or_u32 (a b : Nat) (ha : a < 4294967296) (hb : b < 4294967296) : bits .or .u32 (a : Int) (b : Int) = ((a ||| b : Nat) : Int) := by
  have hx : a ||| b < 2 ^ 32 := Nat.or_lt_two_pow (by omega) (by omega)
  show IntKind.u32.wrap ((BitVec.ofInt 32 (a : Int) ||| BitVec.ofInt 32 (b : Int)).toNat : Int) = _
  rw [BitVec.toNat_or, bv32 a ha, bv32 b hb, IntKind.wrap_u32]
  omega
theorem and255_u32 (x : Int) (h0 : 0 ≤ x) (ha : x < 4294967296) : bits .and .u32 x 255 = x % 256 := by
  obtain ⟨a, rfl⟩ := Int.eq_ofNat_of_zero_le h0
  have h := and_u32 a 255 (by omega) (by omega)
  rw [and255] at h
  exact h

set_option maxRecDepth 100000 in
set_option maxHeartbeats 400000 in
theorem ones_any (b : Nat) (w : World) (h1 : b < 4294967296) :
    Calls Tryz.prog 119 #[.int .u32 b] w fun e w' => e = .returned (.int .i64 (cnt 32 b)) ∧ ∃ n, w' = w.drewN n := by
  have E := Lib.hid (cnt_32 b h1)
  have c0 := cnt_le 8 (b / 16777216)
  have c1 := cnt_le 8 (b / 65536 % 256)
  have c2 := cnt_le 8 (b / 256 % 256)
  have c3 := cnt_le 8 (b % 256)
  have H1 := and255_u32 ((b : Int) / 65536) (by omega) (by omega)
  have H2 := and255_u32 ((b : Int) / 256) (by omega) (by omega)
  have H3 := and255_u32 (b : Int) (by omega) (by omega)
  have G1 := Lib.hid H1
  have G2 := Lib.hid H2
  have G3 := Lib.hid H3
  clear H1 H2 H3
  go_enter Tryz.func119, Tryz.ntmps119
  go_wp2_with fail
  refine wp_region_quiet_lit (by kernel_rfl) (by kernel_rfl) ?_
  go_big_quiet_step (fail)
  go_big_quiet_step (fail)
  go_big_quiet_want
  refine quiet_pop 9 _ _ .u32 (b / 16777216) rfl (by decide +kernel) rfl Tryz.underlying9 (by omega) ?_
  go_simp
  go_big_quiet_on
  go_big_quiet_step (fail)
  go_big_quiet_step (fail)
  go_big_quiet_step (fail)
  go_big_quiet_want
  refine quiet_pop 9 _ _ .u32 (b / 65536 % 256) rfl (by decide +kernel) (by simp [go_sem, G1.out]) Tryz.underlying9 (by omega) ?_
  go_simp
  go_big_quiet_on
  go_big_quiet_step (fail)
  go_big_quiet_step (fail)
  go_big_quiet_step (fail)
  go_big_quiet_step (fail)
  go_big_quiet_want
  refine quiet_pop 9 _ _ .u32 (b / 256 % 256) rfl (by decide +kernel) (by simp [go_sem, G2.out]) Tryz.underlying9 (by omega) ?_
  go_simp
  go_big_quiet_on
  go_big_quiet_step (fail)
  go_big_quiet_step (fail)
  go_big_quiet_step (fail)
  go_big_quiet_want
  refine quiet_pop 9 _ _ .u32 (b % 256) rfl (by decide +kernel) (by simp [go_sem, G3.out]) Tryz.underlying9 (by omega) ?_
  go_simp
  go_big_quiet_on
  repeat (go_big_quiet_step (fail))
  refine wpQuiet_nil ?_
  intro _ hw'
  obtain ⟨nq, hw''⟩ := hw'
  subst hw''
  go_wp2
  go_ret
  exact ⟨ret_int (by rw [E.out]; simp only [Int.natCast_add]), nq, rfl⟩
theorem pow32 (n : Nat) : (2 : Int) ^ (5 * n) = 32 ^ n := by
  rw [Int.pow_mul]; rfl

theorem atVal (h lv : Int) (h0 : 0 ≤ h) (hl : 0 ≤ lv) : wrap64 ((h / 2 ^ (5 * lv).toNat).tmod 32) = h / 32 ^ lv.toNat % 32 := by
  have e : (5 * lv).toNat = 5 * lv.toNat := by omega
  rw [e, pow32]
  have hp : (0 : Int) ≤ h / 32 ^ lv.toNat := Int.ediv_nonneg h0 (Int.le_of_lt (Int.pow_pos (by decide)))
  rw [Int.tmod_eq_emod_of_nonneg hp]
  generalize h / 32 ^ lv.toNat = x at hp
  unfold wrap64
  omega

set_option maxHeartbeats 400000 in
theorem at_no (h lv : Int) (w : World) (hl : lv < 0) :
    Calls Tryz.prog 79 #[.int .u64 h, .int .i64 lv] w fun e w' => e = .returned (.int .i64 0) ∧ w = w' := by
  go_enter Tryz.func79, Tryz.ntmps79
  go_wp2
  go_ret
  exact ⟨rfl, rfl⟩
set_option maxHeartbeats 400000 in
theorem at_no2 (h lv : Int) (w : World) (hl : 13 ≤ lv) :
    Calls Tryz.prog 79 #[.int .u64 h, .int .i64 lv] w fun e w' => e = .returned (.int .i64 0) ∧ w = w' := by
  go_enter Tryz.func79, Tryz.ntmps79
  go_wp2
  go_ret
  exact ⟨rfl, rfl⟩
set_option maxHeartbeats 400000 in
theorem at_yes (h lv : Int) (w : World) (h0 : 0 ≤ h) (h1 : h < 18446744073709551616) (hl : 0 ≤ lv) (hl' : lv < 13) :
    Calls Tryz.prog 79 #[.int .u64 h, .int .i64 lv] w fun e w' => e = .returned (.int .i64 (h / 32 ^ lv.toNat % 32)) ∧ w = w' := by
  go_enter Tryz.func79, Tryz.ntmps79
  go_wp2
  go_ret
  exact ⟨ret_int (atVal h lv h0 hl), rfl⟩

/-- what chunk.At tells -/
def atZ (h lv : Int) : Int := if lv < 0 ∨ 13 ≤ lv then 0 else (h / 32 ^ lv.toNat) % 32
theorem at_any (h lv : Int) (w : World) (h0 : 0 ≤ h) (h1 : h < 18446744073709551616) :
    Calls Tryz.prog 79 #[.int .u64 h, .int .i64 lv] w fun e w' => e = .returned (.int .i64 (atZ h lv)) ∧ w = w' := by
  by_cases c : lv < 0
  · rw [show atZ h lv = 0 by simp [atZ, c]]; exact at_no h lv w c
  · by_cases c2 : 13 ≤ lv
    · rw [show atZ h lv = 0 by simp [atZ, c2]]; exact at_no2 h lv w c2
    · rw [show atZ h lv = (h / 32 ^ lv.toNat) % 32 by simp [atZ, c, c2]]; exact at_yes h lv w h0 h1 (by omega) (by omega)

set_option maxHeartbeats 400000 in
theorem refAt_no (h lv : Int) (w : World) (hl : lv < 0) :
    Calls Tryz.prog 62 #[.int .u64 h, .int .i64 lv] w fun e w' => e = .returned (.int .i64 0) ∧ w = w' := by
  go_enter Tryz.func62, Tryz.ntmps62
  go_wp2
  go_ret
  exact ⟨rfl, rfl⟩
set_option maxHeartbeats 400000 in
theorem refAt_no2 (h lv : Int) (w : World) (hl : 13 ≤ lv) :
    Calls Tryz.prog 62 #[.int .u64 h, .int .i64 lv] w fun e w' => e = .returned (.int .i64 0) ∧ w = w' := by
  go_enter Tryz.func62, Tryz.ntmps62
  go_wp2
  go_ret
  exact ⟨rfl, rfl⟩

theorem div32 (h : Int) (k : Nat) : h / 32 ^ k / 32 = h / 32 ^ (k + 1) := by
  rw [Int.ediv_ediv_of_nonneg (Int.le_of_lt (Int.pow_pos (by decide))), Int.pow_succ]
theorem div32_nonneg (h : Int) (k : Nat) (h0 : 0 ≤ h) : 0 ≤ h / 32 ^ k := Int.ediv_nonneg h0 (Int.le_of_lt (Int.pow_pos (by decide)))
theorem div32_le (h : Int) (k : Nat) (h0 : 0 ≤ h) : h / 32 ^ k ≤ h := by
  exact Int.ediv_le_self _ h0

set_option maxHeartbeats 400000 in
theorem refAt_yes (h lv : Int) (w : World) (h0 : 0 ≤ h) (h1 : h < 18446744073709551616) (hl : 0 ≤ lv) (hl' : lv < 13) :
    Calls Tryz.prog 62 #[.int .u64 h, .int .i64 lv] w fun e w' => e = .returned (.int .i64 (h / 32 ^ lv.toNat % 32)) ∧ w = w' := by
  obtain ⟨n, rfl⟩ := Int.eq_ofNat_of_zero_le hl
  rw [Int.toNat_natCast]
  go_enter Tryz.func62, Tryz.ntmps62
  go_wp2
  go_loop [0, 5] (fun x i => ∃ k : Nat, k ≤ n ∧ i = .int .i64 k ∧ x = .int .u64 (h / 32 ^ k)) (fun _ i => n - (intOf i).toNat)
  case atStart => exact ⟨0, Nat.zero_le _, rfl, by simp⟩
  case round =>
    obtain ⟨k, hk, rfl, rfl⟩ := hrel
    have hd := Lib.hid (div32 h k)
    have hnn := div32_nonneg h k h0
    have hle := div32_le h k h0
    by_cases hlt : k < n
    · go_wp2
      go_round
      case rel => exact ⟨k + 1, by omega, by go_num, by rw [← hd.out]⟩
      case measure => simp [intOf]; omega
    · obtain rfl : k = n := by omega
      go_wp2
      go_ret
      exact ⟨rfl, rfl⟩
theorem refAt_any (h lv : Int) (w : World) (h0 : 0 ≤ h) (h1 : h < 18446744073709551616) :
    Calls Tryz.prog 62 #[.int .u64 h, .int .i64 lv] w fun e w' => e = .returned (.int .i64 (atZ h lv)) ∧ w = w' := by
  by_cases c : lv < 0
  · rw [show atZ h lv = 0 by simp [atZ, c]]; exact refAt_no h lv w c
  · by_cases c2 : 13 ≤ lv
    · rw [show atZ h lv = 0 by simp [atZ, c2]]; exact refAt_no2 h lv w c2
    · rw [show atZ h lv = (h / 32 ^ lv.toNat) % 32 by simp [atZ, c, c2]]; exact refAt_yes h lv w h0 h1 (by omega) (by omega)

/-- the set of i alone -/
def onl (i : Int) : Nat := if 0 ≤ i ∧ i < 32 then 2 ^ i.toNat else 0
theorem onl_lt (i : Int) : onl i < 4294967296 := by
  unfold onl
  split
  · have : 2 ^ i.toNat < 2 ^ 32 := Nat.pow_lt_pow_right (by decide) (by omega)
    omega
  · decide

theorem pow_u32 (n : Nat) (h : n < 32) : (2 : Int) ^ n % 4294967296 = ((2 ^ n : Nat) : Int) := by
  have h2 : 2 ^ n < 2 ^ 32 := Nat.pow_lt_pow_right (by decide) h
  have e : ((2 ^ n : Nat) : Int) = (2 : Int) ^ n := by simp
  rw [← e]
  generalize 2 ^ n = x at h2 ⊢
  omega
set_option maxHeartbeats 400000 in
theorem only_no (i : Int) (w : World) (h : i < 0) :
    Calls Tryz.prog 104 #[.int .i64 i] w fun e w' => e = .returned (.int .u32 0) ∧ w = w' := by
  go_enter Tryz.func104, Tryz.ntmps104
  go_wp2
  go_ret
  exact ⟨rfl, rfl⟩
set_option maxHeartbeats 400000 in
theorem only_no2 (i : Int) (w : World) (h : 32 ≤ i) :
    Calls Tryz.prog 104 #[.int .i64 i] w fun e w' => e = .returned (.int .u32 0) ∧ w = w' := by
  go_enter Tryz.func104, Tryz.ntmps104
  go_wp2
  go_ret
  exact ⟨rfl, rfl⟩
set_option maxHeartbeats 400000 in
theorem only_yes (n : Nat) (w : World) (h : n < 32) :
    Calls Tryz.prog 104 #[.int .i64 n] w fun e w' => e = .returned (.int .u32 (2 ^ n : Nat)) ∧ w = w' := by
  have E := Lib.hid (pow_u32 n h)
  go_enter Tryz.func104, Tryz.ntmps104
  go_wp2
  go_ret
  exact ⟨ret_int E.out, rfl⟩
theorem only_any (i : Int) (w : World) :
    Calls Tryz.prog 104 #[.int .i64 i] w fun e w' => e = .returned (.int .u32 (onl i)) ∧ w = w' := by
  by_cases c : i < 0
  · rw [show onl i = 0 by simp [onl]; omega]; exact only_no i w c
  · by_cases c2 : 32 ≤ i
    · rw [show onl i = 0 by simp [onl]; omega]; exact only_no2 i w c2
    · obtain ⟨n, rfl⟩ := Int.eq_ofNat_of_zero_le (by omega : 0 ≤ i)
      rw [show onl (n : Int) = 2 ^ n by simp [onl]; omega]; exact only_yes n w (by omega)

set_option maxHeartbeats 400000 in
theorem count_any (b : Nat) (w : World) (h1 : b < 4294967296) :
    Calls Tryz.prog 103 #[.int .u32 b] w fun e w' => e = .returned (.int .i64 (cnt 32 b)) ∧ ∃ n, w' = w.drewN n := by
  go_enter Tryz.func103, Tryz.ntmps103
  go_wp2_with (go_at_call 119; refine (ones_any _ _ h1).mono ?_; rintro e w' ⟨rfl, nq, rfl⟩)
  go_ret
  exact ⟨rfl, nq, rfl⟩

set_option maxHeartbeats 400000 in
theorem has_any (b : Nat) (i : Int) (w : World) (h1 : b < 4294967296) :
    Calls Tryz.prog 72 #[.int .u32 b, .int .i64 i] w fun e w' => e = .returned (.bool (b &&& onl i != 0)) ∧ w = w' := by
  have hb := onl_lt i
  have E := Lib.hid (and_u32 b (onl i) h1 hb)
  go_enter Tryz.func72, Tryz.ntmps72
  go_wp2_with (go_at_call 104; refine (only_any _ _).mono ?_; rintro e w' ⟨rfl, rfl⟩)
  go_ret
  refine ⟨?_, rfl⟩
  show Ending.returned (Value.bool (bits BinOp.and IntKind.u32 ↑b ↑(onl i) != 0)) = _
  rw [E.out]
  exact congrArg (fun x => Ending.returned (Value.bool x)) (by rw [Bool.eq_iff_iff]; simp)
set_option maxHeartbeats 400000 in
theorem with_any (b : Nat) (i : Int) (w : World) (h1 : b < 4294967296) :
    Calls Tryz.prog 73 #[.int .u32 b, .int .i64 i] w fun e w' => e = .returned (.int .u32 (b ||| onl i : Nat)) ∧ w = w' := by
  have hb := onl_lt i
  have E := Lib.hid (or_u32 b (onl i) h1 hb)
  go_enter Tryz.func73, Tryz.ntmps73
  go_wp2_with (go_at_call 104; refine (only_any _ _).mono ?_; rintro e w' ⟨rfl, rfl⟩)
  go_ret
  exact ⟨ret_int E.out, rfl⟩
/-- the set without those of another -/
def wo (b c : Nat) : Nat := b &&& (4294967295 - c)
theorem andNot_u32 (a b : Nat) (ha : a < 4294967296) (hb : b < 4294967296) : bits .andNot .u32 (a : Int) (b : Int) = (wo a b : Int) := by
  have hx : a &&& (4294967295 - b) < 2 ^ 32 := Nat.and_lt_two_pow _ (by omega)
  show IntKind.u32.wrap ((BitVec.ofInt 32 (a : Int) &&& ~~~ BitVec.ofInt 32 (b : Int)).toNat : Int) = _
  rw [BitVec.toNat_and, BitVec.toNat_not, bv32 a ha, bv32 b hb, IntKind.wrap_u32]
  unfold wo
  simp only [Nat.reducePow, Nat.reduceSub]
  omega
set_option maxHeartbeats 400000 in
theorem without_any (b : Nat) (i : Int) (w : World) (h1 : b < 4294967296) :
    Calls Tryz.prog 75 #[.int .u32 b, .int .i64 i] w fun e w' => e = .returned (.int .u32 (wo b (onl i))) ∧ w = w' := by
  have hb := onl_lt i
  have E := Lib.hid (andNot_u32 b (onl i) h1 hb)
  go_enter Tryz.func75, Tryz.ntmps75
  go_wp2_with (go_at_call 104; refine (only_any _ _).mono ?_; rintro e w' ⟨rfl, rfl⟩)
  go_ret
  exact ⟨ret_int E.out, rfl⟩

theorem cnt_zero (n : Nat) : cnt n 0 = 0 := by
  induction n with
  | zero => rfl
  | succ n ih => simp [cnt, ih]
theorem cnt_low (n m b : Nat) (h : n ≤ m) : cnt m (b % 2 ^ n) = cnt n b := by
  obtain ⟨k, rfl⟩ := Nat.exists_eq_add_of_le h
  rw [cnt_add, cnt_mod, Nat.div_eq_of_lt (Nat.mod_lt _ (Nat.two_pow_pos n)), cnt_zero]; rfl
theorem cnt_high (n b : Nat) (h : b < 4294967296) (hn : 32 ≤ n) : cnt n b = cnt 32 b := by
  have := cnt_low 32 n b hn
  rw [Nat.mod_eq_of_lt h] at this
  exact this
/-- how many numbers of the set are less than i -/
def rnk (b : Nat) (i : Int) : Nat := cnt i.toNat b
theorem low_u32 (b n : Nat) (h1 : b < 4294967296) (hn : n < 32) : bits .and .u32 (b : Int) (((onl n : Nat) - 1 : Int) % 4294967296) = ((b % 2 ^ n : Nat) : Int) := by
  have e : onl (n : Int) = 2 ^ n := by simp [onl]; omega
  have h2 : 2 ^ n < 2 ^ 32 := Nat.pow_lt_pow_right (by decide) hn
  have h3 : 0 < 2 ^ n := Nat.two_pow_pos n
  have h4 := and_u32 b (2 ^ n - 1) h1 (by omega)
  rw [Nat.and_two_pow_sub_one_eq_mod] at h4
  rw [e, ← h4]
  exact congrArg (bits .and .u32 (b : Int)) (by omega)

set_option maxHeartbeats 400000 in
theorem rank_lo (b : Nat) (i : Int) (w : World) (h : i ≤ 0) :
    Calls Tryz.prog 71 #[.int .u32 b, .int .i64 i] w fun e w' => e = .returned (.int .i64 0) ∧ w = w' := by
  go_enter Tryz.func71, Tryz.ntmps71
  go_wp2
  go_ret
  exact ⟨rfl, rfl⟩
set_option maxHeartbeats 400000 in
theorem rank_hi (b : Nat) (i : Int) (w : World) (h1 : b < 4294967296) (h : 32 ≤ i) :
    Calls Tryz.prog 71 #[.int .u32 b, .int .i64 i] w fun e w' => e = .returned (.int .i64 (cnt 32 b)) ∧ ∃ k, w' = w.drewN k := by
  go_enter Tryz.func71, Tryz.ntmps71
  go_wp2_with (go_at_call 103; refine (count_any _ _ h1).mono ?_; rintro e w' ⟨rfl, nq, rfl⟩)
  go_ret
  exact ⟨rfl, nq, rfl⟩
set_option maxHeartbeats 400000 in
theorem rank_mid (b n : Nat) (w : World) (h1 : b < 4294967296) (h0 : 0 < n) (hn : n < 32):
    Calls Tryz.prog 71 #[.int .u32 b, .int .i64 n] w fun e w' => e = .returned (.int .i64 (cnt n b)) ∧ ∃ k, w' = w.drewN k := by
  have E := Lib.hid (low_u32 b n h1 hn)
  have hlt : b % 2 ^ n < 4294967296 := Nat.lt_of_le_of_lt (Nat.mod_le _ _) h1
  have H := Lib.hid hlt
  clear hlt
  go_enter Tryz.func71, Tryz.ntmps71
  go_wp2_with (go_at_call 104; refine (only_any _ _).mono ?_; rintro e w' ⟨rfl, rfl⟩)
  rw [E.out]
  refine (count_any _ _ H.out).mono ?_
  rintro e w' ⟨rfl, nq, rfl⟩
  go_wp2
  go_ret
  exact ⟨ret_int (congrArg (fun x : Nat => (x : Int)) (cnt_low n 32 b (by omega))), nq, rfl⟩
theorem rank_any (b : Nat) (i : Int) (w : World) (h1 : b < 4294967296) :
    Calls Tryz.prog 71 #[.int .u32 b, .int .i64 i] w fun e w' => e = .returned (.int .i64 (rnk b i)) ∧ ∃ k, w' = w.drewN k := by
  by_cases c : i ≤ 0
  · rw [show rnk b i = 0 by unfold rnk; rw [show i.toNat = 0 by omega]; rfl]
    exact (rank_lo b i w c).mono fun e w' ⟨he, hw⟩ => ⟨he, 0, by rw [← hw]; rfl⟩
  · by_cases c2 : 32 ≤ i
    · rw [show rnk b i = cnt 32 b from cnt_high _ _ h1 (by omega)]; exact rank_hi b i w h1 c2
    · obtain ⟨n, rfl⟩ := Int.eq_ofNat_of_zero_le (by omega : 0 ≤ i)
      exact rank_mid b n w h1 (by omega) (by omega)

end Go.Proofs.YtchimfgbdfmegaaGreat
/- placed, and slices.Clone, of pairs and of children. -/
namespace Go.Proofs.YtchimfgbdfmegaaGreat
open Go.RowKit Go.Lib
set_option linter.unusedVariables false
set_option maxRecDepth 100000
set_option maxRecDepth 100000
set_option linter.unusedSimpArgs false
/-- an element more, at place i -/
def insAt {α : Type} (xs : List α) (i : Nat) (x : α) : List α := xs.take i ++ x :: xs.drop i
/-- the element at place i, or one more there -/
def putAt {α : Type} (xs : List α) (i : Nat) (rep : Bool) (x : α) : List α := if rep then xs.set i x else insAt xs i x
theorem flat_drop (xs : List Pr) (i : Nat) : flat (xs.drop i) = (flat xs).drop (i * 2) := by
  induction xs generalizing i with
  | nil => simp [flat]
  | cons x xs ih =>
    cases i with
    | zero => simp [flat]
    | succ i =>
      have := ih i
      rw [show (i + 1) * 2 = i * 2 + 2 by omega]
      simpa [flat] using this
theorem flat_ins (xs : List Pr) (i : Nat) (p : Pr) : (flat xs).take (i * 2) ++ ([.string p.1, .string p.2] ++ (flat xs).drop (i * 2)) = flat (insAt xs i p) := by
  unfold insAt
  rw [flat_append, flat_take, ← flat_drop]
  simp [flat]
theorem flat_del (xs : List Pr) (i : Nat) : (flat xs).take (i * 2) ++ (flat xs).drop ((i + 1) * 2) = flat (xs.eraseIdx i) := by
  rw [← flat_take, ← flat_drop, ← flat_append, List.eraseIdx_eq_take_drop_succ]
theorem insAt_len {α : Type} (xs : List α) (i : Nat) (x : α) (h : i ≤ xs.length) : (insAt xs i x).length = xs.length + 1 := by
  unfold insAt; simp; omega
/-- children as the cells of a row -/
def kcs (ks : List Nat) : List Value := ks.map at0
theorem kcs_one (ks : List Nat) : ∀ u ∈ kcs ks, u.oneCell' = true := by
  intro u hu
  obtain ⟨k, _, rfl⟩ := List.mem_map.1 hu
  rfl
theorem kcs_ins (ks : List Nat) (i k : Nat) : (kcs ks).take (i * 1) ++ ([at0 k] ++ (kcs ks).drop (i * 1)) = kcs (insAt ks i k) := by
  unfold insAt kcs; simp
theorem kcs_del (ks : List Nat) (i : Nat) : (kcs ks).take (i * 1) ++ (kcs ks).drop ((i + 1) * 1) = kcs (ks.eraseIdx i) := by
  rw [List.eraseIdx_eq_take_drop_succ]
  unfold kcs; simp
/-- a row of children that the call owns -/
def OwnK (base : Nat) (w : World) (v : Value) (ks : List Nat) : Prop := w.ownsRow base 29 1 v ks.length (kcs ks)
theorem OwnK.base {b b' : Nat} {w : World} {v : Value} {xs : List Nat} (h : OwnK b w v xs) (hb : b' ≤ b) : OwnK b' w v xs := by
  refine ⟨h.1, ?_⟩
  rcases h.2 with h1 | ⟨g, cap, cur, h1, hg, h2⟩
  · exact .inl h1
  · exact .inr ⟨g, cap, cur, h1, Nat.le_trans hb hg, h2⟩
theorem Own.base {b b' : Nat} {w : World} {v : Value} {xs : List Pr} (h : Own b w v xs) (hb : b' ≤ b) : Own b' w v xs := by
  refine ⟨h.1, ?_⟩
  rcases h.2 with h1 | ⟨g, cap, cur, h1, hg, h2⟩
  · exact .inl h1
  · exact .inr ⟨g, cap, cur, h1, Nat.le_trans hb hg, h2⟩
theorem Keep.sub {X Y : List Nat} {a b : World} (h : Keep X a b) (hs : ∀ x ∈ X, x ∈ Y) : Keep Y a b := h.mono fun x hx => .inl (hs x hx)
/-- a place that is the old one, or a new one -/
def SameOrNew (v v' : Value) (n : Nat) : Prop := ∀ g, v'.ownBlock = some g → v.ownBlock = some g ∨ n ≤ g
/-- what placed leaves, of pairs -/
def PlaceP (base : Nat) (v : Value) (ys : List Pr) (w : World) (e : Ending) (w' : World) : Prop :=
  ∃ v', e = .returned v' ∧ Own base w' v' ys ∧ SameOrNew v v' w.heap.size ∧ Keep v.ownBlock.toList w w'
def PlaceK (base : Nat) (v : Value) (ys : List Nat) (w : World) (e : Ending) (w' : World) : Prop :=
  ∃ v', e = .returned v' ∧ OwnK base w' v' ys ∧ SameOrNew v v' w.heap.size ∧ Keep v.ownBlock.toList w w'
set_option maxRecDepth 100000 in
set_option maxHeartbeats 2000000 in
theorem place_pairs_yes (base i : Nat) (v : Value) (xs : List Pr) (p : Pr) (w : World) (h : Own base w v xs) (hi : i < xs.length) (hn : xs.length ≤ 900) :
    Calls Tryz.prog 68 #[v, .int .i64 i, .bool true, p.v] w (PlaceP base v (xs.set i p) w) := by
  obtain ⟨g, cap, cur, rfl, hg, hB, hc, hcm, hs, ht⟩ := own_blk h (by omega)
  have hh : (w.alloc (.cells #[.string p.1, .string p.2] 52)).ownsRow base 52 2 (.slice (some ⟨g, 0, none⟩) xs.length cap) xs.length (flat xs) := World.ownsRow.alloc h _
  have hk := (Keep.refl [g] w).alloc (.cells #[.string p.1, .string p.2] 52)
  have c0 := hh.cellAt (i * 2) (by omega)
  have c1 := hh.cellAt (i * 2 + 1) (by omega)
  have f0 := hh.frozenAt (i * 2)
  have f1 := hh.frozenAt (i * 2 + 1)
  rw [(flat_get xs i _ (pat_get hi)).1] at c0
  rw [(flat_get xs i _ (pat_get hi)).2] at c1
  have s1 := (hh.stored (i * 2) (.string p.1)).1
  have s2 := (s1.stored (i * 2 + 1) (.string p.2)).1
  rw [flat_set xs i p hi] at s2
  have B2 : (i : Int) < (xs.length : Int) := by omega
  unfold Pr.v
  clear h hB hs ht
  go_enter Tryz.func68, Tryz.ntmps68
  go_wp2_with fail
  go_ret
  refine ⟨.slice (some ⟨g, 0, none⟩) xs.length cap, rfl, ?_, fun g hg => .inl hg, ((hk.setCell (by simp) _).setCell (by simp) _)⟩
  unfold Own
  rw [List.length_set]
  exact s2
set_option maxRecDepth 100000 in
set_option maxHeartbeats 2000000 in
theorem place_pairs_no (base i : Nat) (v : Value) (xs : List Pr) (p : Pr) (w : World) (h : Own base w v xs) (hi : i ≤ xs.length) (hn : xs.length ≤ 900) (hb : base ≤ w.heap.size) :
    Calls Tryz.prog 68 #[v, .int .i64 i, .bool false, p.v] w (PlaceP base v (insAt xs i p) w) := by
  have hlt := fun k hk => (World.ownsRow.lt h k hk).2
  have hh : ((w.alloc (.cells #[.string p.1, .string p.2] 52)).alloc (.cells #[.string p.1, .string p.2] 52)).ownsRow base 52 2 v xs.length (flat xs) := World.ownsRow.alloc (World.ownsRow.alloc h _) _
  have hk := (((Keep.refl v.ownBlock.toList w).alloc (.cells #[.string p.1, .string p.2] 52)).alloc (.cells #[.string p.1, .string p.2] 52))
  have hb2 := Blk.new (w.alloc (.cells #[.string p.1, .string p.2] 52)) 52 #[.string p.1, .string p.2]
  have hsz : (w.alloc (.cells #[.string p.1, .string p.2] 52)).heap.size = w.heap.size + 1 := by simp
  rw [hsz] at hb2
  unfold Pr.v
  clear hsz
  go_enter Tryz.func68, Tryz.ntmps68
  go_wp2_with fail
  have hsz : ((w.alloc (.cells #[.string p.1, .string p.2] 52)).alloc (.cells #[.string p.1, .string p.2] 52)).heap.size = w.heap.size + 2 := by simp
  generalize (w.alloc (.cells #[.string p.1, .string p.2] 52)).alloc (.cells #[.string p.1, .string p.2] 52) = W at *
  refine (ins_pairs base i xs.length 1 (w.heap.size + 1) v (flat xs) [.string p.1, .string p.2] W hh hi (by decide) (by omega) (flat_one xs) (by simp [Value.oneCell']) hb2 rfl (by omega) (fun e => by have := hlt _ e; omega)).mono ?_
  rintro e w' ⟨v', rfl, ho, hat, hK⟩
  rw [flat_ins] at ho
  clear hh hb2
  go_wp2_with fail
  go_ret
  refine ⟨v', rfl, ?_, fun g hg => ?_, hk.trans hK⟩
  · unfold Own; rw [insAt_len xs i p hi]; exact ho
  · rcases hat with e | e
    · exact .inl (e ▸ hg)
    · rw [e] at hg; exact .inr (by have := Option.some.inj hg; omega)
theorem place_pairs (base i : Nat) (rep : Bool) (v : Value) (xs : List Pr) (p : Pr) (w : World) (h : Own base w v xs) (hi : i ≤ xs.length) (hr : rep = true → i < xs.length) (hn : xs.length ≤ 900) (hb : base ≤ w.heap.size) :
    Calls Tryz.prog 68 #[v, .int .i64 i, .bool rep, p.v] w (PlaceP base v (putAt xs i rep p) w) := by
  cases rep with
  | true => exact place_pairs_yes base i v xs p w h (hr rfl) hn
  | false => exact place_pairs_no base i v xs p w h hi hn hb
set_option maxRecDepth 100000 in
set_option maxHeartbeats 2000000 in
theorem place_kids_yes (base i k : Nat) (v : Value) (xs : List Nat) (w : World) (h : OwnK base w v xs) (hi : i < xs.length) (hn : xs.length ≤ 900) :
    Calls Tryz.prog 77 #[v, .int .i64 i, .bool true, at0 k] w (PlaceK base v (xs.set i k) w) := by
  obtain ⟨g, cap, cur, rfl, hg, hB, hc, hcm, hs, ht⟩ := own_blk h (by omega)
  have hh : w.ownsRow base 29 1 (.slice (some ⟨g, 0, none⟩) xs.length cap) xs.length (kcs xs) := h
  have c0 := hh.cellAt i (by omega)
  have f0 := hh.frozenAt i
  have hget : (kcs xs)[i]? = some (at0 xs[i]) := by simp [kcs, hi]
  rw [hget] at c0
  have s1 := (hh.stored i (at0 k)).1
  have e1 : (kcs xs).set i (at0 k) = kcs (xs.set i k) := by simp [kcs, List.map_set]
  rw [e1] at s1
  have B2 : (i : Int) < (xs.length : Int) := by omega
  clear h hB hs ht hget e1
  unfold at0 at *
  go_enter Tryz.func77, Tryz.ntmps77
  go_wp2_with fail
  go_ret
  refine ⟨.slice (some ⟨g, 0, none⟩) xs.length cap, rfl, ?_, fun g hg => .inl hg, (Keep.refl _ w).setCell (by simp [Value.ownBlock]) _⟩
  unfold OwnK
  rw [List.length_set]
  exact s1
set_option maxRecDepth 100000 in
set_option maxHeartbeats 2000000 in
theorem place_kids_no (base i k : Nat) (v : Value) (xs : List Nat) (w : World) (h : OwnK base w v xs) (hi : i ≤ xs.length) (hn : xs.length ≤ 900) (hb : base ≤ w.heap.size) :
    Calls Tryz.prog 77 #[v, .int .i64 i, .bool false, at0 k] w (PlaceK base v (insAt xs i k) w) := by
  have hlt := fun k hk => (World.ownsRow.lt h k hk).2
  have hh : (w.alloc (.cells #[at0 k] 29)).ownsRow base 29 1 v xs.length (kcs xs) := World.ownsRow.alloc h _
  have hk := (Keep.refl v.ownBlock.toList w).alloc (.cells #[at0 k] 29)
  have hb2 := Blk.new w 29 #[at0 k]
  unfold at0 at *
  go_enter Tryz.func77, Tryz.ntmps77
  go_wp2_with fail
  have hsz : (w.alloc (.cells #[.pointer (some ⟨k, 0, none⟩)] 29)).heap.size = w.heap.size + 1 := by simp
  generalize w.alloc (.cells #[.pointer (some ⟨k, 0, none⟩)] 29) = W at *
  refine (ins_kids base i xs.length 1 w.heap.size v (kcs xs) [at0 k] W hh hi (by decide) (by omega) (kcs_one xs) (by simp [Value.oneCell', at0]) hb2 rfl (by omega) (fun e => by have := hlt _ e; omega)).mono ?_
  rintro e w' ⟨v', rfl, ho, hat, hK⟩
  rw [kcs_ins] at ho
  clear hh hb2
  go_wp2_with fail
  go_ret
  refine ⟨v', rfl, ?_, fun g hg => ?_, hk.trans hK⟩
  · unfold OwnK; rw [insAt_len xs i k hi]; exact ho
  · rcases hat with e | e
    · exact .inl (e ▸ hg)
    · rw [e] at hg; exact .inr (by have := Option.some.inj hg; omega)
theorem place_kids (base i k : Nat) (rep : Bool) (v : Value) (xs : List Nat) (w : World) (h : OwnK base w v xs) (hi : i ≤ xs.length) (hr : rep = true → i < xs.length) (hn : xs.length ≤ 900) (hb : base ≤ w.heap.size) :
    Calls Tryz.prog 77 #[v, .int .i64 i, .bool rep, at0 k] w (PlaceK base v (putAt xs i rep k) w) := by
  cases rep with
  | true => exact place_kids_yes base i k v xs w h (hr rfl) hn
  | false => exact place_kids_no base i k v xs w h hi hn hb

/-- a copy of a row: nil of nil, else a new one -/
theorem own_nil_or {w : World} {base : Nat} {e : TypeId} {size n : Nat} {v : Value} {xs : List Value} (h : w.ownsRow base e size v n xs) : (v = .slice none 0 0 ∧ n = 0) ∨ ∃ g cap, v = .slice (some ⟨g, 0, none⟩) n cap := by
  rcases h.2 with h1 | ⟨g, cap, cur, h1, _⟩
  · exact .inl h1
  · exact .inr ⟨g, cap, h1⟩
def CloneP (xs : List Pr) (w : World) (e : Ending) (w' : World) : Prop := ∃ v, e = .returned v ∧ Own w.heap.size w' v xs ∧ Below w.heap.size w w'
def CloneK (xs : List Nat) (w : World) (e : Ending) (w' : World) : Prop := ∃ v, e = .returned v ∧ OwnK w.heap.size w' v xs ∧ Below w.heap.size w w'
theorem clone_nil (w : World) : Calls Tryz.prog 93 #[.slice none 0 0] w fun e w' => e = .returned (.slice none 0 0) ∧ w = w' := by
  have hnl := fun w => run_eql_slice_nil (P := Tryz.prog) w 27 52 none 0 0 0 0 Tryz.underlying27
  go_enter Tryz.func93, Tryz.ntmps93
  go_wp2_with fail
  go_ret
  exact ⟨rfl, rfl⟩
theorem clone_pairs (base : Nat) (v : Value) (xs : List Pr) (w : World) (h : Own base w v xs) (hn : xs.length ≤ 900) : Calls Tryz.prog 93 #[v] w (CloneP xs w) := by
  obtain ⟨A, c, rfl, hR, hA⟩ := h.rd
  rcases own_nil_or h with ⟨h1, h0⟩ | ⟨g, cap, h1⟩
  · rw [h1]
    obtain rfl := List.length_eq_zero_iff.1 h0
    refine (clone_nil w).mono ?_
    rintro e w' ⟨rfl, rfl⟩
    exact ⟨_, rfl, World.ownsRow_nil _ _ _ _, Below.refl _ _⟩
  · simp only [Value.slice.injEq, true_and] at h1
    obtain ⟨rfl, rfl⟩ := h1
    refine (clone_any g 0 c xs w hR (by omega)).mono ?_
    rintro e w' ⟨g', c', rfl, hO, hB⟩
    exact ⟨_, rfl, hO, hB⟩
theorem clone_knil (w : World) : Calls Tryz.prog 94 #[.slice none 0 0] w fun e w' => e = .returned (.slice none 0 0) ∧ w = w' := by
  have hnl := fun w => run_eql_slice_nil (P := Tryz.prog) w 96 29 none 0 0 0 0 Tryz.underlying96
  go_enter Tryz.func94, Tryz.ntmps94
  go_wp2_with fail
  go_ret
  exact ⟨rfl, rfl⟩
theorem ownk_lit (w : World) : w.alloc (.cells #[] 29) |>.ownsRow w.heap.size 29 1 (.slice (some ⟨w.heap.size, 0, none⟩) 0 0) 0 [] :=
  World.ownsRow_lit w #[] 0 (Nat.le_refl _) (Nat.zero_le _) rfl
set_option maxHeartbeats 2000000 in
theorem clone_kids (base : Nat) (v : Value) (xs : List Nat) (w : World) (h : OwnK base w v xs) (hn : xs.length ≤ 900) : Calls Tryz.prog 94 #[v] w (CloneK xs w) := by
  rcases own_nil_or h with ⟨h1, h0⟩ | ⟨g, cap, h1⟩
  · rw [h1]
    obtain rfl := List.length_eq_zero_iff.1 h0
    refine (clone_knil w).mono ?_
    rintro e w' ⟨rfl, rfl⟩
    exact ⟨_, rfl, World.ownsRow_nil _ _ _ _, Below.refl _ _⟩
  · subst h1
    obtain ⟨i0, hi, hz0, hz1, hz2⟩ := info_parts info39
    have hh : (w.alloc (.cells #[] 29)).ownsRow base 29 1 (.slice (some ⟨g, 0, none⟩) xs.length cap) xs.length (kcs xs) := World.ownsRow.alloc h _
    have hcells : ∀ j u, (kcs xs)[j]? = some u → (w.alloc (.cells #[] 29)).cell? ((⟨g, 0, none⟩ : Addr).add j) = some u := fun j u hu => by
      have hl := (List.getElem?_eq_some_iff.1 hu).1
      have : (kcs xs).length = xs.length := by simp [kcs]
      rw [addr_at, Nat.zero_add, hh.cellAt j (by omega)]; exact hu
    have hkl : (kcs xs).length = xs.length * 1 := by simp [kcs]
    have hlit := ownk_lit w
    have hnl := fun w => run_eql_slice_nil (P := Tryz.prog) w 96 29 (some ⟨g, 0, none⟩) xs.length cap 0 0 Tryz.underlying96
    clear hh h
    go_enter Tryz.func94, Tryz.ntmps94
    go_wp2_with (at_builtin; refine wpList_append_own _ rfl _ _ 96 rfl w.heap.size 29 i0 _ 1 8 Tryz.underlying96 hi hz0 hz1 hz2 zsz_kids (by decide) _ _ _ rfl hlit ⟨g, 0, none⟩ xs.length cap (kcs xs) rfl hkl hcells (kcs_one xs) (by unfold maxLen; omega) (by omega) (by simp) ?_; intro v' wa hown' hgrow hnil)
    go_ret
    have hB : Below w.heap.size w wa := ((Below.refl _ w).alloc (Nat.le_refl _) _).grown hgrow (by simp) (own_ge hlit)
    refine ⟨v', rfl, ?_, hB⟩
    unfold OwnK
    simpa using hown'
end Go.Proofs.YtchimfgbdfmegaaGreat
/- What the chunks of a node have; the sets and lists that tell it: plain mathematics. -/
namespace Go.Proofs.YtchimfgbdfmegaaGreat
open Go.RowKit Go.Lib
set_option linter.unusedVariables false
set_option maxRecDepth 100000
set_option maxRecDepth 100000
set_option linter.unusedSimpArgs false
/-- what a chunk has: nothing, a pair, a child (its block) -/
inductive Sl where
  | no
  | pr (p : Pr)
  | kd (k : Nat)
abbrev Slots := Nat → Sl
def Sl.p? : Sl → Option Pr
  | .pr p => some p
  | _ => none
def Sl.k? : Sl → Option Nat
  | .kd k => some k
  | _ => none
/-- a chunk changed -/
def Slots.put (S : Slots) (i : Nat) (x : Sl) : Slots := fun j => if j = i then x else S j
/-- what the first n chunks have -/
def fm {α : Type} (f : Nat → Option α) (n : Nat) : List α := (List.range n).filterMap f
def rest {α : Type} (f : Nat → Option α) (i : Nat) : List α := (List.range' (i + 1) (31 - i)).filterMap f
theorem fm_split {α : Type} (f : Nat → Option α) (i : Nat) (h : i < 32) : fm f 32 = fm f i ++ ((f i).toList ++ rest f i) := by
  have e : List.range 32 = List.range i ++ (i :: List.range' (i + 1) (31 - i)) := by
    have h1 : List.range 32 = List.range (i + (1 + (31 - i))) := by congr 1; omega
    rw [h1, List.range_eq_range', List.range_eq_range', ← List.range'_append_1, Nat.zero_add, Nat.add_comm 1 (31 - i), List.range'_succ]
  unfold fm rest
  rw [e, List.filterMap_append, List.filterMap_cons]
  cases f i <;> simp
theorem fmap_congr {α : Type} (f g : Nat → Option α) : ∀ l : List Nat, (∀ j ∈ l, f j = g j) → l.filterMap f = l.filterMap g
  | [], _ => rfl
  | x :: r, h => by rw [List.filterMap_cons, List.filterMap_cons, h x (by simp), fmap_congr f g r (fun j hj => h j (by simp [hj]))]
theorem fm_congr {α : Type} (f g : Nat → Option α) (n : Nat) (h : ∀ j, j < n → f j = g j) : fm f n = fm g n := by
  unfold fm
  apply fmap_congr
  intro j hj
  exact h j (List.mem_range.1 hj)
theorem rest_congr {α : Type} (f g : Nat → Option α) (i : Nat) (h : ∀ j, i < j → f j = g j) : rest f i = rest g i := by
  unfold rest
  apply fmap_congr
  intro j hj
  exact h j (by have := (List.mem_range'_1.1 hj).1; omega)
theorem fm_upd {α : Type} (f g : Nat → Option α) (i : Nat) (h : i < 32) (hg : ∀ j, j ≠ i → g j = f j) : fm g 32 = fm f i ++ ((g i).toList ++ rest f i) := by
  rw [fm_split g i h, fm_congr g f i (fun j hj => hg j (by omega)), rest_congr g f i (fun j hj => hg j (by omega))]
theorem fm_put {α : Type} (f g : Nat → Option α) (i : Nat) (b : α) (h : i < 32) (hg : ∀ j, j ≠ i → g j = f j) (hb : g i = some b) : fm g 32 = putAt (fm f 32) (fm f i).length (f i).isSome b := by
  rw [fm_upd f g i h hg, hb, fm_split f i h]
  cases hf : f i with
  | none =>
    unfold putAt insAt
    simp
  | some a =>
    unfold putAt
    simp
theorem fm_erase {α : Type} (f g : Nat → Option α) (i : Nat) (h : i < 32) (hg : ∀ j, j ≠ i → g j = f j) (hb : g i = none) : fm g 32 = if (f i).isSome then (fm f 32).eraseIdx (fm f i).length else fm f 32 := by
  rw [fm_upd f g i h hg, hb, fm_split f i h]
  cases hf : f i with
  | none => simp
  | some a => simp [List.eraseIdx_append_of_length_le]
theorem fm_same {α : Type} (f g : Nat → Option α) (h : ∀ j, g j = f j) : fm g 32 = fm f 32 := fm_congr _ _ _ (fun j _ => h j)
theorem fm_len_le {α : Type} (f : Nat → Option α) (n : Nat) : (fm f n).length ≤ n := by
  unfold fm
  have := List.length_filterMap_le f (List.range n)
  simpa using this
theorem fm_lt {α : Type} (f : Nat → Option α) (i : Nat) (h : i < 32) (hs : (f i).isSome = true) : (fm f i).length < (fm f 32).length := by
  rw [fm_split f i h]
  obtain ⟨a, ha⟩ := Option.isSome_iff_exists.1 hs
  simp [ha]
theorem fm_le {α : Type} (f : Nat → Option α) (i : Nat) (h : i < 32) : (fm f i).length ≤ (fm f 32).length := by
  rw [fm_split f i h]; simp
theorem fm_at {α : Type} (f : Nat → Option α) (i : Nat) (a : α) (h : i < 32) (hs : f i = some a) : (fm f 32)[(fm f i).length]? = some a := by
  rw [fm_split f i h, hs]
  simp
theorem fm_succ {α : Type} (f : Nat → Option α) (n : Nat) : fm f (n + 1) = fm f n ++ (f n).toList := by
  unfold fm
  rw [List.range_succ, List.filterMap_append]
  cases h : f n <;> simp [h]
/-- the set d has just the chunks of which f says so -/
structure BitsOf (d : Nat) (f : Nat → Bool) : Prop where
  lt : d < 4294967296
  bit : ∀ i, i < 32 → d.testBit i = f i
theorem testBit_big {d i : Nat} (h : d < 4294967296) (hi : 32 ≤ i) : d.testBit i = false := Nat.testBit_lt_two_pow (Nat.lt_of_lt_of_le h (by
  have : (2 : Nat) ^ 32 ≤ 2 ^ i := Nat.pow_le_pow_right (by decide) hi
  simpa using this))
theorem BitsOf.ext {d e : Nat} {f : Nat → Bool} (h : BitsOf d f) (k : BitsOf e f) : d = e := by
  apply Nat.eq_of_testBit_eq
  intro i
  rcases Nat.lt_or_ge i 32 with hi | hi
  · rw [h.bit i hi, k.bit i hi]
  · rw [testBit_big h.lt hi, testBit_big k.lt hi]
theorem onl_nat (i : Nat) (h : i < 32) : onl (i : Int) = 2 ^ i := by simp [onl]; omega
theorem has_bit (d i : Nat) (h : i < 32) : (d &&& onl (i : Int) != 0) = d.testBit i := by
  rw [onl_nat i h]
  have e : d &&& 2 ^ i = if d.testBit i = true then 2 ^ i else 0 := by
    apply Nat.eq_of_testBit_eq
    intro j
    rw [Nat.testBit_and, Nat.testBit_two_pow]
    by_cases hj : i = j
    · subst hj
      cases hb : d.testBit i <;> simp [hb, Nat.testBit_two_pow_self]
    · cases hb : d.testBit i <;> simp [hj, Nat.testBit_two_pow]
  rw [e]
  have := Nat.two_pow_pos i
  cases hb : d.testBit i <;> simp <;> omega
theorem has_out (d : Nat) (i : Int) (h : i < 0 ∨ 32 ≤ i) : (d &&& onl i != 0) = false := by
  have : onl i = 0 := by unfold onl; rw [if_neg (by omega)]
  simp [this]
theorem BitsOf.with_ {d i : Nat} {f g : Nat → Bool} (h : BitsOf d f) (hi : i < 32) (hg : ∀ j, j ≠ i → g j = f j) (hb : g i = true) : BitsOf (d ||| onl (i : Int)) g := by
  refine ⟨?_, fun j hj => ?_⟩
  · have := onl_lt (i : Int)
    have h1 := h.lt
    have := Nat.or_lt_two_pow (n := 32) (by simpa using h1) (by simpa using this)
    simpa using this
  · rw [onl_nat i hi, Nat.testBit_or, Nat.testBit_two_pow, h.bit j hj]
    by_cases e : i = j
    · subst e; simp [hb]
    · rw [hg j (Ne.symm e)]; simp [e]
theorem BitsOf.wo_ {d i : Nat} {f g : Nat → Bool} (h : BitsOf d f) (hi : i < 32) (hg : ∀ j, j ≠ i → g j = f j) (hb : g i = false) : BitsOf (wo d (onl (i : Int))) g := by
  have hlt := onl_lt (i : Int)
  refine ⟨?_, fun j hj => ?_⟩
  · unfold wo
    exact Nat.lt_of_le_of_lt Nat.and_le_left h.lt
  · unfold wo
    have e : 4294967295 - onl (i : Int) = 2 ^ 32 - (onl (i : Int) + 1) := by simp
    rw [e, Nat.testBit_and, Nat.testBit_two_pow_sub_succ (by simpa using hlt), h.bit j hj, onl_nat i hi, Nat.testBit_two_pow]
    by_cases e : i = j
    · subst e; simp [hb]
    · rw [hg j (Ne.symm e)]; simp [e, hj]
theorem BitsOf.same {d : Nat} {f g : Nat → Bool} (h : BitsOf d f) (hg : ∀ j, g j = f j) : BitsOf d g := ⟨h.lt, fun i hi => (h.bit i hi).trans (hg i).symm⟩
theorem BitsOf.zero {f : Nat → Bool} (h : ∀ j, f j = false) : BitsOf 0 f := ⟨by decide, fun i _ => by simp [h i]⟩
theorem cnt_fm {α : Type} {d : Nat} (f : Nat → Option α) (h : BitsOf d (fun i => (f i).isSome)) (n : Nat) (hn : n ≤ 32) : cnt n d = (fm f n).length := by
  induction n with
  | zero => rfl
  | succ n ih =>
    rw [cnt_add n 1 d, ih (by omega), fm_succ, List.length_append]
    congr 1
    have hb := h.bit n (by omega)
    rw [Nat.testBit_eq_decide_div_mod_eq] at hb
    simp only [cnt]
    have : d / 2 ^ n % 2 < 2 := Nat.mod_lt _ (by decide)
    rcases (by omega : d / 2 ^ n % 2 = 0 ∨ d / 2 ^ n % 2 = 1) with hx | hx
    · rw [hx] at hb ⊢
      cases hf : f n with
      | none => rfl
      | some a => rw [hf] at hb; simp at hb
    · rw [hx] at hb ⊢
      cases hf : f n with
      | none => rw [hf] at hb; simp at hb
      | some a => rfl
end Go.Proofs.YtchimfgbdfmegaaGreat
/- A region that draws its order, in which the cells that it reads hold till its first store: a law of its own. -/
namespace Go.Proofs.YtchimfgbdfmegaaGreat
open Go
set_option linter.unusedVariables false
set_option maxRecDepth 100000
set_option maxRecDepth 100000
section
variable {P : Program} {ops : Array Oper} {Q : Exit → Act → World → Prop} {md : Region.Mode} {S : World → Prop} {st : Nat}
/-- whatever order is picked from here on; S holds behind each operation as long as operation st has not come up -/
def wpAnyL (P : Program) (md : Region.Mode) (ops : Array Oper) (Q : Exit → Act → World → Prop) (S : World → Prop) (st : Nat) : Nat → Array Bool → Act → World → Prop
  | 0, listed, a, w => Region.ready md ops listed = [] ∧ Q .normal a w
  | fuel + 1, listed, a, w =>
    (Region.ready md ops listed = [] → Q .normal a w) ∧
    ∀ i ∈ Region.ready md ops listed, wpOp P ops Q i (fun a' w' => ((listed.setIfInBounds i true).getD st true = false → S w') ∧ wpAnyL P md ops Q S st fuel (listed.setIfInBounds i true) a' w') a w
theorem wpAny_of_late : ∀ (fuel : Nat) (listed : Array Bool) (a : Act) (w : World), wpAnyL P md ops Q S st fuel listed a w → wpAny P md ops Q fuel listed a w
  | 0, _, _, _, h => h
  | fuel + 1, _, _, _, h => ⟨h.1, fun i hi => wpOp_mono (fun a' w' h' => wpAny_of_late fuel _ a' w' h'.2) (h.2 i hi)⟩
/-- does operation st wait for operation i? -/
def waits (md : Region.Mode) (ops : Array Oper) (st i : Nat) : Bool := match ops[st]? with
  | some o => o.after.any fun e => Region.binds md e && e.on == i
  | none => false
theorem waits_not {listed : Array Bool} {i : Nat} (hw : waits md ops st i = true) (hi : listed.getD i true = false) : st ∉ Region.ready md ops listed := by
  intro hs
  obtain ⟨_, os, hos, hall⟩ := mem_ready.1 hs
  unfold waits at hw
  rw [hos] at hw
  simp only [Array.any_eq_true] at hw
  obtain ⟨n, hn, he⟩ := hw
  rw [Bool.and_eq_true] at he
  have h1 := hall os.after[n] (Array.getElem_mem hn) he.1
  have h2 : os.after[n].on = i := by simpa using he.2
  rw [h2] at h1
  rcases Nat.lt_or_ge i listed.size with h' | h'
  · simp [h'] at hi h1; rw [hi] at h1; cases h1
  · simp [Array.getElem?_eq_none h'] at h1
theorem wpAnyL_first {i : Nat} {oi : Oper} {v : Value} (hi : ops[i]? = some oi) (hsel : ∀ (j : Nat) (o : Oper) cs b, ops[j]? = some o → o.op ≠ .select cs b)
    (hQ : ∀ c a w, Q (.panic c) (a.put oi.dst v) w → Q (.panic c) a w) (hne : i ≠ st) (hw : waits md ops st i = true) :
    ∀ (fuel : Nat) (listed : Array Bool) (a : Act) (w : World),
      (∀ j oj, ops[j]? = some oj → j ≠ i → listed.getD j true = false → (∀ e ∈ oj.after, Region.binds md e = true → e.on ≠ i) → oi.apart ops oj = true) →
      i ∈ Region.ready md ops listed → listed.getD st true = false → YieldsIf P ops S oi v a → S w →
      wpAnyL P md ops Q S st fuel (listed.setIfInBounds i true) (a.put oi.dst v) w → wpAnyL P md ops Q S st (fuel + 1) listed a w := by
  intro fuel
  induction fuel with
  | zero =>
    intro listed a w _ hr hst hy hS H
    refine ⟨fun h => (by rw [h] at hr; cases hr), fun j hj => ?_⟩
    by_cases hji : j = i
    · subst hji; exact hy.wpOp hi hS ⟨fun _ => hS, H⟩
    · have := ready_mono hj hji
      rw [H.1] at this
      cases this
  | succ fuel ih =>
    intro listed a w hfree hr hst hy hS H
    refine ⟨fun h => (by rw [h] at hr; cases hr), fun j hj => ?_⟩
    have h0 := (mem_ready.1 hr).1
    by_cases hji : j = i
    · subst hji; exact hy.wpOp hi hS ⟨fun _ => hS, H⟩
    · have hjs : j ≠ st := by
        rintro rfl
        exact waits_not hw (by simpa using h0) hj
      have h1 := H.2 j (ready_mono hj hji)
      obtain ⟨hjun, oj, hoj, hall⟩ := mem_ready.1 hj
      have hnot : ∀ e ∈ oj.after, Region.binds md e = true → e.on ≠ i := fun e he hb heq => by
        have h1 := hall e he hb
        rw [heq] at h1
        rcases Nat.lt_or_ge i listed.size with h' | h'
        · simp [h'] at h0 h1; rw [h0] at h1; cases h1
        · simp [Array.getElem?_eq_none h'] at h1
      have h2 := wpOp_putIf hoj (hfree j oj hoj hji hjun hnot) (fun cs b => hsel i oi cs b hi) (fun cs b => hsel j oj cs b hoj) hQ hy h1
      have hfree' : ∀ k ok, ops[k]? = some ok → k ≠ i → (listed.setIfInBounds j true).getD k true = false →
          (∀ e ∈ ok.after, Region.binds md e = true → e.on ≠ i) → oi.apart ops ok = true := fun k ok hk hki hun hno => by
        refine hfree k ok hk hki ?_ hno
        by_cases hjk : j = k
        · subst hjk; exact hjun
        · rw [getD_set_ne true hjk] at hun; exact hun
      have hst2 : (listed.setIfInBounds j true).getD st true = false := by rw [getD_set_ne true hjs]; exact hst
      have hst3 : ((listed.setIfInBounds i true).setIfInBounds j true).getD st true = false := by rw [getD_set_ne true hjs, getD_set_ne true hne]; exact hst
      refine wpOp_mono (fun a' w' h3 => ⟨fun _ => h3.2.1 hst3, ih (listed.setIfInBounds j true) a' w' hfree' (ready_mono hr (Ne.symm hji)) hst2 h3.1 (h3.2.1 hst3) ?_⟩) h2
      rw [Array.setIfInBounds_comm _ _ hji]
      exact h3.2.2
/-- an operation that looks at no cell may be taken first at any time -/
theorem wpAnyL_first0 {i : Nat} {oi : Oper} {v : Value} (hi : ops[i]? = some oi) (hsel : ∀ (j : Nat) (o : Oper) cs b, ops[j]? = some o → o.op ≠ .select cs b)
    (hQ : ∀ c a w, Q (.panic c) (a.put oi.dst v) w → Q (.panic c) a w) (hne : i ≠ st) :
    ∀ (fuel : Nat) (listed : Array Bool) (a : Act) (w : World),
      (∀ j oj, ops[j]? = some oj → j ≠ i → listed.getD j true = false → (∀ e ∈ oj.after, Region.binds md e = true → e.on ≠ i) → oi.apart ops oj = true) →
      i ∈ Region.ready md ops listed → YieldsIf P ops (fun _ => True) oi v a → (listed.getD st true = false → S w) →
      wpAnyL P md ops Q S st fuel (listed.setIfInBounds i true) (a.put oi.dst v) w → wpAnyL P md ops Q S st (fuel + 1) listed a w := by
  intro fuel
  induction fuel with
  | zero =>
    intro listed a w _ hr hy hS H
    refine ⟨fun h => (by rw [h] at hr; cases hr), fun j hj => ?_⟩
    by_cases hji : j = i
    · subst hji; exact hy.wpOp hi trivial ⟨fun h => hS (by rw [getD_set_ne true hne] at h; exact h), H⟩
    · have := ready_mono hj hji
      rw [H.1] at this
      cases this
  | succ fuel ih =>
    intro listed a w hfree hr hy hS H
    refine ⟨fun h => (by rw [h] at hr; cases hr), fun j hj => ?_⟩
    have h0 := (mem_ready.1 hr).1
    by_cases hji : j = i
    · subst hji; exact hy.wpOp hi trivial ⟨fun h => hS (by rw [getD_set_ne true hne] at h; exact h), H⟩
    · have h1 := H.2 j (ready_mono hj hji)
      obtain ⟨hjun, oj, hoj, hall⟩ := mem_ready.1 hj
      have hnot : ∀ e ∈ oj.after, Region.binds md e = true → e.on ≠ i := fun e he hb heq => by
        have h1 := hall e he hb
        rw [heq] at h1
        rcases Nat.lt_or_ge i listed.size with h' | h'
        · simp [h'] at h0 h1; rw [h0] at h1; cases h1
        · simp [Array.getElem?_eq_none h'] at h1
      have h2 := wpOp_putIf hoj (hfree j oj hoj hji hjun hnot) (fun cs b => hsel i oi cs b hi) (fun cs b => hsel j oj cs b hoj) hQ hy h1
      have hfree' : ∀ k ok, ops[k]? = some ok → k ≠ i → (listed.setIfInBounds j true).getD k true = false →
          (∀ e ∈ ok.after, Region.binds md e = true → e.on ≠ i) → oi.apart ops ok = true := fun k ok hk hki hun hno => by
        refine hfree k ok hk hki ?_ hno
        by_cases hjk : j = k
        · subst hjk; exact hjun
        · rw [getD_set_ne true hjk] at hun; exact hun
      have hst3 : (listed.setIfInBounds j true).getD st true = false → ((listed.setIfInBounds i true).setIfInBounds j true).getD st true = false := fun h => by
        rw [Array.setIfInBounds_comm _ _ (Ne.symm hji), getD_set_ne true hne]; exact h
      refine wpOp_mono (fun a' w' h3 => ⟨fun h => h3.2.1 (hst3 h), ih (listed.setIfInBounds j true) a' w' hfree' (ready_mono hr (Ne.symm hji)) h3.1 (fun h => h3.2.1 (hst3 h)) ?_⟩) h2
      rw [Array.setIfInBounds_comm _ _ hji]
      exact h3.2.2
/-- a read that operation st waits for is taken first -/
theorem wpAnyL_take {i : Nat} {oi : Oper} {v : Value} {fuel : Nat} {listed : Array Bool} {a : Act} {w : World} (hi : ops[i]? = some oi)
    (hs : Region.noSelect ops = true) (hf : Region.free md ops listed i = true) (hr : (Region.ready md ops listed).contains i = true)
    (hk : (decide (i ≠ st) && waits md ops st i && !(listed.getD st true)) = true)
    (hQ : ∀ c a w, Q (.panic c) (a.put oi.dst v) w → Q (.panic c) a w) (hS : S w) (hy : YieldsIf P ops S oi v a)
    (h : wpAnyL P md ops Q S st fuel (listed.setIfInBounds i true) (a.put oi.dst v) w) : wpAnyL P md ops Q S st (fuel + 1) listed a w := by
  simp only [Bool.and_eq_true, decide_eq_true_eq, Bool.not_eq_true'] at hk
  exact wpAnyL_first hi (Region.noSelect_spec hs) hQ hk.1.1 hk.1.2 fuel listed a w (Region.free_spec hi hf) (by simpa using hr) hk.2 hy hS h
/-- what looks at no cell -/
theorem wpAnyL_take0 {i : Nat} {oi : Oper} {v : Value} {fuel : Nat} {listed : Array Bool} {a : Act} {w : World} (hi : ops[i]? = some oi)
    (hs : Region.noSelect ops = true) (hf : Region.free md ops listed i = true) (hr : (Region.ready md ops listed).contains i = true)
    (hk : decide (i ≠ st) = true)
    (hQ : ∀ c a w, Q (.panic c) (a.put oi.dst v) w → Q (.panic c) a w) (hS : S w) (hy : YieldsIf P ops (fun _ => True) oi v a)
    (h : wpAnyL P md ops Q S st fuel (listed.setIfInBounds i true) (a.put oi.dst v) w) : wpAnyL P md ops Q S st (fuel + 1) listed a w :=
  wpAnyL_first0 hi (Region.noSelect_spec hs) hQ (of_decide_eq_true hk) fuel listed a w (Region.free_spec hi hf) (by simpa using hr) hy (fun _ => hS) h
/-- whichever of those that may come up comes up -/
def AllReadyL (P : Program) (md : Region.Mode) (ops : Array Oper) (Q : Exit → Act → World → Prop) (S : World → Prop) (st : Nat) (fuel : Nat) (listed : Array Bool) (a : Act) (w : World) (rs : List Nat) : Prop :=
  ∀ i ∈ rs, wpOp P ops Q i (fun a' w' => ((listed.setIfInBounds i true).getD st true = false → S w') ∧ wpAnyL P md ops Q S st fuel (listed.setIfInBounds i true) a' w') a w
theorem AllReadyL.nil {fuel : Nat} {listed : Array Bool} {a : Act} {w : World} : AllReadyL P md ops Q S st fuel listed a w [] := fun _ h => by cases h
theorem AllReadyL.cons {fuel : Nat} {listed : Array Bool} {a : Act} {w : World} {i : Nat} {o : Oper} {rs : List Nat} (ho : ops[i]? = some o)
    (h : ∀ K' : Act → World → Prop, Shut (∀ a w, ((listed.setIfInBounds i true).getD st true = false → S w) → wpAnyL P md ops Q S st fuel (listed.setIfInBounds i true) a w → K' a w) → if Region.wanted o (yielded ops a.tmps) = true then Oper.wp P o a w K' Q else K' (a.put o.dst undef) w)
    (hs : AllReadyL P md ops Q S st fuel listed a w rs) : AllReadyL P md ops Q S st fuel listed a w (i :: rs) := fun j hj => by
  rcases List.mem_cons.1 hj with rfl | hj
  · exact wpOp_step ho (fun K' hK => h K' (fun a w hS hW => hK a w ⟨hS, hW⟩))
  · exact hs j hj
theorem wpAnyL_ready {rs : List Nat} {fuel : Nat} {listed : Array Bool} {a : Act} {w : World} (hr : Region.ready md ops listed = rs) (hne : rs ≠ [])
    (h : AllReadyL P md ops Q S st fuel listed a w rs) : wpAnyL P md ops Q S st (fuel + 1) listed a w :=
  ⟨fun h0 => absurd (hr ▸ h0) hne, by rw [hr]; exact h⟩
theorem wpAnyL_done {listed : Array Bool} {a : Act} {w : World} (hr : Region.ready md ops listed = []) (h : Q .normal a w) :
    ∀ fuel, wpAnyL P md ops Q S st fuel listed a w
  | 0 => ⟨hr, h⟩
  | _ + 1 => ⟨fun _ => h, by rw [hr]; simp⟩
theorem wp_region_late {id : Nat} {a : Act} {w : World} (hm : P.follows .mixedOrders = true)
    (h : wpAnyL P .any ops Q S st ops.size (Array.replicate ops.size false) a w.drew) : (Code.region id ops true).wp P Q a w :=
  wp_region_any hm (wpAny_of_late _ _ _ _ h)
end
end Go.Proofs.YtchimfgbdfmegaaGreat
