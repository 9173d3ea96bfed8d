/- Contracts of the rotation and the round of package sip and of its reference, for every word. -/
import Derived.Test.YtehkmgmmelnceaaProg
import Derived.WalkKit
import Derived.Lib.Hide
import Derived.Below
import Derived.Laws.OwnMore
import Derived.Laws.Rows
import Derived.Deep.QuietTactic
import Derived.BigQuiet
import Derived.Laws.Bits64b
namespace Go.Proofs.Ytehkmgmmelnceaa
open Go.RowKit
set_option linter.unusedVariables false
set_option linter.unusedSimpArgs false

theorem ret_int' {k : IntKind} {a b : Int} (h : a = b) : Ending.returned (.int k a) = .returned (.int k b) := by rw [h]

/-- to the left by n bits -/
def rotN (x n : Nat) : Nat := (x * 2 ^ n) % 18446744073709551616 + x / 2 ^ (64 - n)
theorem rotN_zero (x : Nat) (h : x < 18446744073709551616) : rotN x 0 = x := by
  unfold rotN
  rw [show (2 : Nat) ^ (64 - 0) = 18446744073709551616 from rfl, Nat.div_eq_of_lt h]
  simp; omega
theorem rotN_form (x n m : Nat) (hnm : n + m = 64) : rotN x n = 2 ^ n * (x % 2 ^ m) + x / 2 ^ m := by
  unfold rotN
  have hm : 64 - n = m := by omega
  have hM : (18446744073709551616 : Nat) = 2 ^ n * 2 ^ m := by rw [← Nat.pow_add, hnm]
  rw [hm, hM, Nat.mul_comm x, Nat.mul_mod_mul_left]
theorem rotN_lt (x n : Nat) (h : x < 18446744073709551616) (hn : n ≤ 64) : rotN x n < 18446744073709551616 := by
  obtain ⟨m, hm⟩ : ∃ m, n + m = 64 := ⟨64 - n, by omega⟩
  rw [rotN_form x n m hm]
  have hM : (18446744073709551616 : Nat) = 2 ^ n * 2 ^ m := by rw [← Nat.pow_add, hm]
  have hq : x / 2 ^ m < 2 ^ n := by
    apply Nat.div_lt_of_lt_mul; rw [Nat.mul_comm, ← hM]; exact h
  have ht : x % 2 ^ m < 2 ^ m := Nat.mod_lt _ (Nat.two_pow_pos m)
  have h1 : 2 ^ n * (x % 2 ^ m + 1) ≤ 2 ^ n * 2 ^ m := Nat.mul_le_mul_left _ ht
  rw [Nat.mul_add] at h1
  omega
theorem rotN_succ (x n : Nat) (h : x < 18446744073709551616) (hn : n < 64) : (rotN x n * 2) % 18446744073709551616 + rotN x n / 9223372036854775808 = rotN x (n + 1) := by
  obtain ⟨m, hm⟩ : ∃ m, n + 1 + m = 64 := ⟨63 - n, by omega⟩
  rw [rotN_form x n (m + 1) (by omega), rotN_form x (n + 1) m hm]
  have hP : 2 ^ n * 2 ^ m = 9223372036854775808 := by rw [← Nat.pow_add, show n + m = 63 by omega]
  have hB : (2 : Nat) ^ (m + 1) = 2 ^ m * 2 := Nat.pow_succ ..
  have hA : (2 : Nat) ^ (n + 1) = 2 ^ n * 2 := Nat.pow_succ ..
  have hq : x / 2 ^ (m + 1) < 2 ^ n := by
    apply Nat.div_lt_of_lt_mul
    rw [Nat.mul_comm, hB, ← Nat.mul_assoc, hP]; exact h
  have h1 : x % 2 ^ m = x % 2 ^ (m + 1) % 2 ^ m := by rw [hB, Nat.mod_mul_right_mod]
  have h2 : x / 2 ^ (m + 1) = x / 2 ^ m / 2 := by rw [hB, Nat.div_div_eq_div_mul]
  have h3 : x % 2 ^ (m + 1) = x % 2 ^ m + 2 ^ m * (x / 2 ^ m % 2) := by rw [hB, Nat.mod_mul]
  have ht0 : x % 2 ^ m < 2 ^ m := Nat.mod_lt _ (Nat.two_pow_pos m)
  have h4 : 2 ^ n * (x % 2 ^ m + 1) ≤ 2 ^ n * 2 ^ m := Nat.mul_le_mul_left _ ht0
  rw [Nat.mul_add, hP] at h4
  rw [h3, hA, Nat.mul_add, ← Nat.mul_assoc, hP, Nat.mul_right_comm]
  generalize 2 ^ n * (x % 2 ^ m) = Y at *
  generalize 2 ^ n = A at *
  generalize x / 2 ^ m = Q at *
  rw [h2] at hq ⊢
  omega
/-- the rotation, over the integers that the walk shows -/
def rot (x : Int) (n : Nat) : Int := rotN x.toNat n
theorem rot_lt (x : Int) (n : Nat) (h0 : 0 ≤ x) (h : x < 18446744073709551616) (hn : n ≤ 64) : 0 ≤ rot x n ∧ rot x n < 18446744073709551616 := by
  have := rotN_lt x.toNat n (by omega) hn
  unfold rot; omega
theorem rot_zero (x : Int) (h0 : 0 ≤ x) (h : x < 18446744073709551616) : rot x 0 = x := by
  unfold rot; rw [rotN_zero _ (by omega)]; omega
theorem rot_succ (x : Int) (n : Nat) (h0 : 0 ≤ x) (h : x < 18446744073709551616) (hn : n < 64) :
    IntKind.u64.wrap (IntKind.u64.wrap (rot x n * 2) + rot x n / 9223372036854775808) = rot x (n + 1) := by
  rw [IntKind.wrap_u64, IntKind.wrap_u64]
  have := rotN_succ x.toNat n (by omega) hn
  have := rotN_lt x.toNat (n + 1) (by omega) (by omega)
  unfold rot; omega

set_option maxHeartbeats 400000 in
theorem turn_any (x : Int) (n : Nat) (w : World) (h0 : 0 ≤ x) (h1 : x < 18446744073709551616) (hn : n ≤ 64) :
    Calls Try.prog 45 #[.int .u64 x, .int .i64 n] w fun e w' => e = .returned (.int .u64 (rot x n)) ∧ w = w' := by
  go_enter Try.func45, Try.ntmps45
  go_wp2
  go_loop [0, 5] (fun y i => ∃ k : Nat, k ≤ n ∧ i = .int .i64 k ∧ y = .int .u64 (rot x k)) (fun _ i => n - (intOf i).toNat)
  case atStart => exact ⟨0, Nat.zero_le _, rfl, by rw [rot_zero x h0 h1]⟩
  case round =>
    obtain ⟨k, hk, rfl, rfl⟩ := hrel
    have hb := rot_lt x k h0 h1 (by omega)
    by_cases hlt : k < n
    · have S := Lib.hid (rot_succ x k h0 h1 (by omega))
      go_wp2
      go_round
      case rel => exact ⟨k + 1, by omega, by go_num, by rw [← S.out]⟩
      case measure => simp [intOf]; omega
    · obtain rfl : k = n := by omega
      go_wp2
      go_ret
      exact ⟨rfl, rfl⟩
theorem and63 (n : Nat) (hn : n < 64) : bits .and .u64 (n : Int) 63 = (n : Int) := by
  have h := bits_and_u64_nat n 63 (by omega) (by omega)
  rw [Nat.and_two_pow_sub_one_eq_mod n 6, Nat.mod_eq_of_lt (by omega)] at h
  exact h
theorem or_rot (x : Int) (n : Nat) (h0 : 0 ≤ x) (h1 : x < 18446744073709551616) (hn : n < 64) :
    bits .or .u64 (IntKind.u64.wrap (x * 2 ^ n)) (x / 2 ^ (64 - n)) = rot x n := by
  obtain ⟨X, rfl⟩ := Int.eq_ofNat_of_zero_le h0
  have hX : X < 18446744073709551616 := by omega
  have e1 : IntKind.u64.wrap ((X : Int) * 2 ^ n) = ((X * 2 ^ n % 18446744073709551616 : Nat) : Int) := by
    rw [IntKind.wrap_u64]; simp
  have e2 : (X : Int) / 2 ^ (64 - n) = ((X / 2 ^ (64 - n) : Nat) : Int) := by simp
  rw [e1, e2]
  have hq : X / 2 ^ (64 - n) < 2 ^ n := by
    apply Nat.div_lt_of_lt_mul
    rw [← Nat.pow_add, show 64 - n + n = 64 by omega]; exact hX
  have hn2 : 2 ^ n < 2 ^ 64 := Nat.pow_lt_pow_right (by decide) hn
  rw [bits_or_u64_nat _ _ (Nat.mod_lt _ (by decide)) (by omega)]
  unfold rot rotN
  have hM : X * 2 ^ n % 18446744073709551616 = 2 ^ n * (X % 2 ^ (64 - n)) := by
    rw [show (18446744073709551616 : Nat) = 2 ^ n * 2 ^ (64 - n) by rw [← Nat.pow_add, show n + (64 - n) = 64 by omega], Nat.mul_comm X, Nat.mul_mod_mul_left]
  rw [Int.toNat_natCast, hM, Nat.two_pow_add_eq_or_of_lt hq]
set_option maxHeartbeats 400000 in
theorem rotl_any (x : Int) (n : Nat) (w : World) (h0 : 0 ≤ x) (h1 : x < 18446744073709551616) (hn : n < 64) (hn0 : 0 < n) :
    Calls Try.prog 46 #[.int .u64 x, .int .i64 n] w fun e w' => e = .returned (.int .u64 (rot x n)) ∧ w = w' := by
  have E := and63 n hn
  go_enter Try.func46, Try.ntmps46
  go_wp2
  go_ret
  exact ⟨ret_int' (or_rot x n h0 h1 hn), rfl⟩

theorem rotl_i (x k : Int) (w : World) (hx : 0 ≤ x ∧ x < 18446744073709551616) (h0 : 0 < k) (h1 : k < 64) :
    Calls Try.prog 46 #[.int .u64 x, .int .i64 k] w fun e w' => e = .returned (.int .u64 (rot x k.toNat)) ∧ w = w' := by
  obtain ⟨n, rfl⟩ := Int.eq_ofNat_of_zero_le (Int.le_of_lt h0)
  exact rotl_any x n w hx.1 hx.2 (by omega) (by omega)
theorem turn_i (x k : Int) (w : World) (hx : 0 ≤ x ∧ x < 18446744073709551616) (h0 : 0 < k) (h1 : k < 64) :
    Calls Try.prog 45 #[.int .u64 x, .int .i64 k] w fun e w' => e = .returned (.int .u64 (rot x k.toNat)) ∧ w = w' := by
  obtain ⟨n, rfl⟩ := Int.eq_ofNat_of_zero_le (Int.le_of_lt h0)
  exact turn_any x n w hx.1 hx.2 (by omega)
theorem below_drewN {B : Nat} {a w : World} (h : Below B a w) (n : Nat) : Below B a (w.drewN n) := h.trans ⟨rfl, rfl, rfl, Nat.le_refl _, fun _ _ => rfl⟩
/-- four words -/
abbrev St := Int × Int × Int × Int
/-- a state as a value -/
abbrev St.v (s : St) : Value := .agg #[.int .u64 s.1, .int .u64 s.2.1, .int .u64 s.2.2.1, .int .u64 s.2.2.2]
def St.ok (s : St) : Prop := (0 ≤ s.1 ∧ s.1 < 18446744073709551616) ∧ (0 ≤ s.2.1 ∧ s.2.1 < 18446744073709551616) ∧ (0 ≤ s.2.2.1 ∧ s.2.2.1 < 18446744073709551616) ∧ (0 ≤ s.2.2.2 ∧ s.2.2.2 < 18446744073709551616)
def ad (a b : Int) : Int := IntKind.u64.wrap (a + b)
def xo (a b : Int) : Int := bits .xor .u64 a b
/-- one round -/
def rnd (s : St) : St :=
  let a := ad s.1 s.2.1
  let b := xo (rot s.2.1 13) a
  let a := rot a 32
  let c := ad s.2.2.1 s.2.2.2
  let d := xo (rot s.2.2.2 16) c
  let a := ad a d
  let d := xo (rot d 21) a
  let c := ad c b
  let b := xo (rot b 17) c
  let c := rot c 32
  (a, b, c, d)
theorem ad_lt (a b : Int) : 0 ≤ ad a b ∧ ad a b < 18446744073709551616 := by unfold ad; rw [IntKind.wrap_u64]; omega
theorem xo_lt (a b : Int) : 0 ≤ xo a b ∧ xo a b < 18446744073709551616 := by
  unfold xo bits; rw [IntKind.wrap_u64]; omega

set_option maxHeartbeats 1000000 in
set_option maxRecDepth 100000 in
theorem round_any (a b c d : Int) (w : World) (ha : 0 ≤ a ∧ a < 18446744073709551616) (hb : 0 ≤ b ∧ b < 18446744073709551616) (hc : 0 ≤ c ∧ c < 18446744073709551616) (hd : 0 ≤ d ∧ d < 18446744073709551616) :
    Calls Try.prog 44 #[.agg #[.int .u64 a, .int .u64 b, .int .u64 c, .int .u64 d]] w fun e w' => e = .returned (St.v (rnd (a, b, c, d))) ∧ Below w.heap.size w w' := by
  go_enter Try.func44, Try.ntmps44
  go_wp2
  go_quiet (fail)
  go_wp2_with (go_at_call 46; refine (rotl_i _ _ _ (by first | exact hb | exact hd | exact ad_lt _ _ | exact xo_lt _ _) (by decide) (by decide)).mono ?_; rintro e w' ⟨rfl, rfl⟩)
  refine bodyPost_ret (v := St.v (rnd (a, b, c, d))) (by simp [results, Try.results44, go_sem, rnd, ad, xo]) rfl ⟨rfl, ?_⟩
  repeat (first | exact Below.refl _ _ | refine Below.setCell ?_ (by simp) _ | refine below_drewN ?_ _ | refine Below.alloc ?_ (by simp) _)

set_option maxHeartbeats 1000000 in
set_option maxRecDepth 100000 in
theorem refRound_any (a b c d : Int) (w : World) (ha : 0 ≤ a ∧ a < 18446744073709551616) (hb : 0 ≤ b ∧ b < 18446744073709551616) (hc : 0 ≤ c ∧ c < 18446744073709551616) (hd : 0 ≤ d ∧ d < 18446744073709551616) :
    Calls Try.prog 38 #[.agg #[.int .u64 a, .int .u64 b, .int .u64 c, .int .u64 d]] w fun e w' => e = .returned (St.v (rnd (a, b, c, d))) ∧ Below w.heap.size w w' := by
  go_enter Try.func38, Try.ntmps38
  go_wp2
  go_quiet (fail)
  go_wp2_with (go_at_call 45; refine (turn_i _ _ _ (by first | exact hb | exact hd | exact ad_lt _ _ | exact xo_lt _ _) (by decide) (by decide)).mono ?_; rintro e w' ⟨rfl, rfl⟩)
  refine bodyPost_ret (v := St.v (rnd (a, b, c, d))) (by simp [results, Try.results38, go_sem, rnd, ad, xo]) rfl ⟨rfl, ?_⟩
  repeat (first | exact Below.refl _ _ | refine Below.setCell ?_ (by simp) _ | refine below_drewN ?_ _ | refine Below.alloc ?_ (by simp) _)

theorem rnd_ok (s : St) : (rnd s).ok := ⟨ad_lt _ _, xo_lt _ _, rot_lt _ _ (ad_lt _ _).1 (ad_lt _ _).2 (by decide), xo_lt _ _⟩
theorem round_s (s : St) (w : World) (h : s.ok) :
    Calls Try.prog 44 #[s.v] w fun e w' => e = .returned (St.v (rnd s)) ∧ Below w.heap.size w w' :=
  round_any s.1 s.2.1 s.2.2.1 s.2.2.2 w h.1 h.2.1 h.2.2.1 h.2.2.2
theorem refRound_s (s : St) (w : World) (h : s.ok) :
    Calls Try.prog 38 #[s.v] w fun e w' => e = .returned (St.v (rnd s)) ∧ Below w.heap.size w w' :=
  refRound_any s.1 s.2.1 s.2.2.1 s.2.2.2 w h.1 h.2.1 h.2.2.1 h.2.2.2

/-- eight bytes mixed in -/
def mix (s : St) (m : Int) : St :=
  let r := rnd (rnd (s.1, s.2.1, s.2.2.1, xo s.2.2.2 m))
  (xo r.1 m, r.2.1, r.2.2.1, r.2.2.2)
theorem mix_ok (s : St) (m : Int) : (mix s m).ok :=
  have h := rnd_ok (rnd (s.1, s.2.1, s.2.2.1, xo s.2.2.2 m))
  ⟨xo_lt _ _, h.2.1, h.2.2.1, h.2.2.2⟩
/-- the hash of a state -/
def fin (s : St) : Int :=
  let r := rnd (rnd (rnd (rnd (s.1, s.2.1, xo s.2.2.1 255, s.2.2.2))))
  xo (xo (xo r.1 r.2.1) r.2.2.1) r.2.2.2
theorem bcell {W w1 : World} (hb : Below W.heap.size W w1) : (∀ b o, b < W.heap.size → w1.cell? ⟨b, o, none⟩ = W.cell? ⟨b, o, none⟩) ∧ (∀ b o, b < W.heap.size → w1.frozen? ⟨b, o, none⟩ = W.frozen? ⟨b, o, none⟩) :=
  ⟨fun b o h => hb.cell (p := ⟨b, o, none⟩) h, fun b o h => hb.frozen (p := ⟨b, o, none⟩) h⟩

set_option maxHeartbeats 1000000 in
theorem start_any (k0 k1 : Int) (w : World) (h0 : 0 ≤ k0 ∧ k0 < 18446744073709551616) (h1 : 0 ≤ k1 ∧ k1 < 18446744073709551616) :
    Calls Try.prog 33 #[.agg #[.int .u64 k0, .int .u64 k1]] w fun e w' => e = .returned (St.v (xo k0 8317987319222330741, xo k1 7237128888997146477, xo k0 7816392313619706465, xo k1 8387220255154660723)) ∧ Below w.heap.size w w' := by
  go_enter Try.func33, Try.ntmps33
  go_wp2
  refine bodyPost_ret (v := St.v (xo k0 8317987319222330741, xo k1 7237128888997146477, xo k0 7816392313619706465, xo k1 8387220255154660723)) (by simp [results, Try.results33, go_sem, xo]) rfl ⟨rfl, ?_⟩
  repeat (first | exact Below.refl _ _ | refine Below.setCell ?_ (by simp) _ | refine below_drewN ?_ _ | refine Below.alloc ?_ (by simp) _)

/-- block g is just these cells, none of them frozen -/
def Blk (w : World) (g : Nat) (t : TypeId) (cs : Array Value) : Prop := w.heap[g]? = some (.cells cs t (0, 0))
theorem Blk.lt {w : World} {g : Nat} {t : TypeId} {cs : Array Value} (h : Blk w g t cs) : g < w.heap.size := by
  rcases Nat.lt_or_ge g w.heap.size with hlt | hge
  · exact hlt
  · unfold Blk at h; rw [Array.getElem?_eq_none hge] at h; cases h
theorem Blk.cell {w : World} {g : Nat} {t : TypeId} {cs : Array Value} (h : Blk w g t cs) (i : Nat) : w.cell? ⟨g, i, none⟩ = cs[i]? := cell_of_row w g i cs t (0, 0) h
theorem Blk.frozen {w : World} {g : Nat} {t : TypeId} {cs : Array Value} (h : Blk w g t cs) (i : Nat) : w.frozen? ⟨g, i, none⟩ = false := by
  unfold Blk at h
  simp [World.frozen?, h]
theorem Blk.new (w : World) (t : TypeId) (cs : Array Value) : Blk (w.alloc (.cells cs t)) w.heap.size t cs := heap_alloc_new w _
theorem Blk.alloc {w : World} {g : Nat} {t : TypeId} {cs : Array Value} (h : Blk w g t cs) (o : Obj) : Blk (w.alloc o) g t cs := (Below.heap_alloc w o g h.lt).trans h
theorem Blk.below {w w' : World} {g : Nat} {t : TypeId} {cs : Array Value} {B : Nat} (h : Blk w g t cs) (hb : Below B w w') (hg : g < B) : Blk w' g t cs := (hb.block g hg).trans h
theorem Blk.set_ {w : World} {g : Nat} {t : TypeId} {cs : Array Value} (h : Blk w g t cs) (i : Nat) (u : Value) : Blk (w.setCell ⟨g, i, none⟩ u) g t (cs.setIfInBounds i u) := by
  unfold Blk at h ⊢
  simp [World.setCell, Array.getElem?_modify, h]
theorem Blk.far {w : World} {g : Nat} {t : TypeId} {cs : Array Value} (h : Blk w g t cs) {p : Addr} (hp : g ≠ p.block) (u : Value) : Blk (w.setCell p u) g t cs := (Below.heap_setCell w p u g hp).trans h
theorem four {w : World} {g : Nat} {t : TypeId} {a b c d : Value} (h : Blk w g t #[a, b, c, d]) :
    (w.cell? ⟨g, 0, none⟩ = some a ∧ w.cell? ⟨g, 1, none⟩ = some b ∧ w.cell? ⟨g, 2, none⟩ = some c ∧ w.cell? ⟨g, 3, none⟩ = some d) ∧
    (w.frozen? ⟨g, 0, none⟩ = false ∧ w.frozen? ⟨g, 1, none⟩ = false ∧ w.frozen? ⟨g, 2, none⟩ = false ∧ w.frozen? ⟨g, 3, none⟩ = false) :=
  ⟨⟨h.cell 0, h.cell 1, h.cell 2, h.cell 3⟩, h.frozen 0, h.frozen 1, h.frozen 2, h.frozen 3⟩

set_option maxHeartbeats 1000000 in
theorem mixed_any (a b c d m : Int) (w : World) (ha : 0 ≤ a ∧ a < 18446744073709551616) (hb : 0 ≤ b ∧ b < 18446744073709551616) (hc : 0 ≤ c ∧ c < 18446744073709551616) (hd : 0 ≤ d ∧ d < 18446744073709551616) :
    Calls Try.prog 34 #[.agg #[.int .u64 a, .int .u64 b, .int .u64 c, .int .u64 d], .int .u64 m] w fun e w' => e = .returned (St.v (mix (a, b, c, d) m)) ∧ Below w.heap.size w w' := by
  go_enter Try.func34, Try.ntmps34
  go_wp2_with fail
  refine (round_any _ _ _ _ _ ha hb hc (xo_lt _ _)).mono ?_
  rintro e w1 ⟨rfl, hb1⟩
  go_wp2_with fail
  refine (round_s _ _ (rnd_ok _)).mono ?_
  rintro e w2 ⟨rfl, hb2⟩
  dsimp only [St.v]
  have hb12 := hb1.trans (hb2.mono hb1.size)
  have hs := hb12.size
  have B1 := ((Blk.new w 65 #[.int .u64 a, .int .u64 b, .int .u64 c, .int .u64 (bits BinOp.xor IntKind.u64 d m)]).alloc (.cells #[.int .u64 0, .int .u64 0, .int .u64 0, .int .u64 0] 65)).below hb12 (by simp; omega)
  have B2 := (Blk.new (w.alloc (.cells #[.int .u64 a, .int .u64 b, .int .u64 c, .int .u64 (bits BinOp.xor IntKind.u64 d m)] 65)) 65 #[.int .u64 0, .int .u64 0, .int .u64 0, .int .u64 0]).below hb12 (by simp)
  have hW : Below w.heap.size w w2 := Below.trans (by repeat (first | exact Below.refl _ _ | refine Below.setCell ?_ (by simp) _ | refine below_drewN ?_ _ | refine Below.alloc ?_ (by simp) _)) (hb12.mono (by simp; omega))
  obtain ⟨r, hr⟩ : ∃ r, rnd (rnd (a, b, c, xo d m)) = r := ⟨_, rfl⟩
  rw [hr]
  have M := Lib.hid (show mix (a, b, c, d) m = (xo r.1 m, r.2.1, r.2.2.1, r.2.2.2) by rw [← hr]; rfl)
  simp only [World.size_alloc] at B2 hs
  clear hr hb1 hb2 hb12
  obtain ⟨⟨c0, c1, c2, c3⟩, f0, f1, f2, f3⟩ := four B1
  obtain ⟨⟨d0, d1, d2, d3⟩, g0, g1, g2, g3⟩ := four B2
  clear B1 B2
  go_wp2
  refine bodyPost_ret (v := St.v (mix (a, b, c, d) m)) (by rw [M.out]; simp [results, Try.results34, go_sem, xo, c0, c1, c2, c3, d0, d1, d2, d3]) rfl ⟨rfl, ?_⟩
  repeat (first | (with_reducible exact hW) | ((with_reducible refine Below.setCell ?_ ?hp _); (case hp => simp; try omega)) | (with_reducible refine below_drewN ?_ _) | ((with_reducible refine Below.alloc ?_ ?hp _); (case hp => simp; try omega)))
end Go.Proofs.Ytehkmgmmelnceaa
