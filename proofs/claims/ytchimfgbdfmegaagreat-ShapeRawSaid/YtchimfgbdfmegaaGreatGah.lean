/- Contracts of the rotation and the round of package sip and of its reference, for every word. -/
import Derived.Test.YtchimfgbdfmegaaGreatProg
import Derived.WalkKit
import Derived.Lib.Hide
import Derived.Below
import Derived.Laws.OwnMore
import Derived.Laws.Rows
import Derived.Deep.QuietTactic
import Derived.BigQuiet
import Derived.Laws.Bits64b
import Derived.StillTailTactics
namespace Go.Proofs.YtchimfgbdfmegaaGreat.Sip
open Go.RowKit
set_option linter.unusedVariables false
set_option maxRecDepth 100000
set_option maxRecDepth 100000
set_option linter.unusedSimpArgs false

theorem ret_int' {k : IntKind} {a b : Int} (h : a = b) : Ending.returned (.int k a) = .returned (.int k b) := by rw [h]

/-- to the left by n bits -/
def rotN (x n : Nat) : Nat := (x * 2 ^ n) % 18446744073709551616 + x / 2 ^ (64 - n)
theorem rotN_zero (x : Nat) (h : x < 18446744073709551616) : rotN x 0 = x := by
  unfold rotN
  rw [show (2 : Nat) ^ (64 - 0) = 18446744073709551616 from rfl, Nat.div_eq_of_lt h]
  simp; omega
theorem rotN_form (x n m : Nat) (hnm : n + m = 64) : rotN x n = 2 ^ n * (x % 2 ^ m) + x / 2 ^ m := by
  unfold rotN
  have hm : 64 - n = m := by omega
  have hM : (18446744073709551616 : Nat) = 2 ^ n * 2 ^ m := by rw [← Nat.pow_add, hnm]
  rw [hm, hM, Nat.mul_comm x, Nat.mul_mod_mul_left]
theorem rotN_lt (x n : Nat) (h : x < 18446744073709551616) (hn : n ≤ 64) : rotN x n < 18446744073709551616 := by
  obtain ⟨m, hm⟩ : ∃ m, n + m = 64 := ⟨64 - n, by omega⟩
  rw [rotN_form x n m hm]
  have hM : (18446744073709551616 : Nat) = 2 ^ n * 2 ^ m := by rw [← Nat.pow_add, hm]
  have hq : x / 2 ^ m < 2 ^ n := by
    apply Nat.div_lt_of_lt_mul; rw [Nat.mul_comm, ← hM]; exact h
  have ht : x % 2 ^ m < 2 ^ m := Nat.mod_lt _ (Nat.two_pow_pos m)
  have h1 : 2 ^ n * (x % 2 ^ m + 1) ≤ 2 ^ n * 2 ^ m := Nat.mul_le_mul_left _ ht
  rw [Nat.mul_add] at h1
  omega
theorem rotN_succ (x n : Nat) (h : x < 18446744073709551616) (hn : n < 64) : (rotN x n * 2) % 18446744073709551616 + rotN x n / 9223372036854775808 = rotN x (n + 1) := by
  obtain ⟨m, hm⟩ : ∃ m, n + 1 + m = 64 := ⟨63 - n, by omega⟩
  rw [rotN_form x n (m + 1) (by omega), rotN_form x (n + 1) m hm]
  have hP : 2 ^ n * 2 ^ m = 9223372036854775808 := by rw [← Nat.pow_add, show n + m = 63 by omega]
  have hB : (2 : Nat) ^ (m + 1) = 2 ^ m * 2 := Nat.pow_succ ..
  have hA : (2 : Nat) ^ (n + 1) = 2 ^ n * 2 := Nat.pow_succ ..
  have hq : x / 2 ^ (m + 1) < 2 ^ n := by
    apply Nat.div_lt_of_lt_mul
    rw [Nat.mul_comm, hB, ← Nat.mul_assoc, hP]; exact h
  have h1 : x % 2 ^ m = x % 2 ^ (m + 1) % 2 ^ m := by rw [hB, Nat.mod_mul_right_mod]
  have h2 : x / 2 ^ (m + 1) = x / 2 ^ m / 2 := by rw [hB, Nat.div_div_eq_div_mul]
  have h3 : x % 2 ^ (m + 1) = x % 2 ^ m + 2 ^ m * (x / 2 ^ m % 2) := by rw [hB, Nat.mod_mul]
  have ht0 : x % 2 ^ m < 2 ^ m := Nat.mod_lt _ (Nat.two_pow_pos m)
  have h4 : 2 ^ n * (x % 2 ^ m + 1) ≤ 2 ^ n * 2 ^ m := Nat.mul_le_mul_left _ ht0
  rw [Nat.mul_add, hP] at h4
  rw [h3, hA, Nat.mul_add, ← Nat.mul_assoc, hP, Nat.mul_right_comm]
  generalize 2 ^ n * (x % 2 ^ m) = Y at *
  generalize 2 ^ n = A at *
  generalize x / 2 ^ m = Q at *
  rw [h2] at hq ⊢
  omega
/-- the rotation, over the integers that the walk shows -/
def rotS (x : Int) (n : Nat) : Int := rotN x.toNat n
theorem rotS_lt (x : Int) (n : Nat) (h0 : 0 ≤ x) (h : x < 18446744073709551616) (hn : n ≤ 64) : 0 ≤ rotS x n ∧ rotS x n < 18446744073709551616 := by
  have := rotN_lt x.toNat n (by omega) hn
  unfold rotS; omega
theorem rotS_zero (x : Int) (h0 : 0 ≤ x) (h : x < 18446744073709551616) : rotS x 0 = x := by
  unfold rotS; rw [rotN_zero _ (by omega)]; omega
theorem rotS_succ (x : Int) (n : Nat) (h0 : 0 ≤ x) (h : x < 18446744073709551616) (hn : n < 64) :
    IntKind.u64.wrap (IntKind.u64.wrap (rotS x n * 2) + rotS x n / 9223372036854775808) = rotS x (n + 1) := by
  rw [IntKind.wrap_u64, IntKind.wrap_u64]
  have := rotN_succ x.toNat n (by omega) hn
  have := rotN_lt x.toNat (n + 1) (by omega) (by omega)
  unfold rotS; omega

set_option maxHeartbeats 400000 in
theorem turn_any (x : Int) (n : Nat) (w : World) (h0 : 0 ≤ x) (h1 : x < 18446744073709551616) (hn : n ≤ 64) :
    Calls Tryz.prog 114 #[.int .u64 x, .int .i64 n] w fun e w' => e = .returned (.int .u64 (rotS x n)) ∧ w = w' := by
  go_enter Tryz.func114, Tryz.ntmps114
  go_wp2
  go_loop [0, 5] (fun y i => ∃ k : Nat, k ≤ n ∧ i = .int .i64 k ∧ y = .int .u64 (rotS x k)) (fun _ i => n - (intOf i).toNat)
  case atStart => exact ⟨0, Nat.zero_le _, rfl, by rw [rotS_zero x h0 h1]⟩
  case round =>
    obtain ⟨k, hk, rfl, rfl⟩ := hrel
    have hb := rotS_lt x k h0 h1 (by omega)
    by_cases hlt : k < n
    · have S := Lib.hid (rotS_succ x k h0 h1 (by omega))
      go_wp2
      go_round
      case rel => exact ⟨k + 1, by omega, by go_num, by rw [← S.out]⟩
      case measure => simp [intOf]; omega
    · obtain rfl : k = n := by omega
      go_wp2
      go_ret
      exact ⟨rfl, rfl⟩
theorem and63 (n : Nat) (hn : n < 64) : bits .and .u64 (n : Int) 63 = (n : Int) := by
  have h := bits_and_u64_nat n 63 (by omega) (by omega)
  rw [Nat.and_two_pow_sub_one_eq_mod n 6, Nat.mod_eq_of_lt (by omega)] at h
  exact h
theorem or_rot (x : Int) (n : Nat) (h0 : 0 ≤ x) (h1 : x < 18446744073709551616) (hn : n < 64) :
    bits .or .u64 (IntKind.u64.wrap (x * 2 ^ n)) (x / 2 ^ (64 - n)) = rotS x n := by
  obtain ⟨X, rfl⟩ := Int.eq_ofNat_of_zero_le h0
  have hX : X < 18446744073709551616 := by omega
  have e1 : IntKind.u64.wrap ((X : Int) * 2 ^ n) = ((X * 2 ^ n % 18446744073709551616 : Nat) : Int) := by
    rw [IntKind.wrap_u64]; simp
  have e2 : (X : Int) / 2 ^ (64 - n) = ((X / 2 ^ (64 - n) : Nat) : Int) := by simp
  rw [e1, e2]
  have hq : X / 2 ^ (64 - n) < 2 ^ n := by
    apply Nat.div_lt_of_lt_mul
    rw [← Nat.pow_add, show 64 - n + n = 64 by omega]; exact hX
  have hn2 : 2 ^ n < 2 ^ 64 := Nat.pow_lt_pow_right (by decide) hn
  rw [bits_or_u64_nat _ _ (Nat.mod_lt _ (by decide)) (by omega)]
  unfold rotS rotN
  have hM : X * 2 ^ n % 18446744073709551616 = 2 ^ n * (X % 2 ^ (64 - n)) := by
    rw [show (18446744073709551616 : Nat) = 2 ^ n * 2 ^ (64 - n) by rw [← Nat.pow_add, show n + (64 - n) = 64 by omega], Nat.mul_comm X, Nat.mul_mod_mul_left]
  rw [Int.toNat_natCast, hM, Nat.two_pow_add_eq_or_of_lt hq]
set_option maxHeartbeats 400000 in
theorem rotl_any (x : Int) (n : Nat) (w : World) (h0 : 0 ≤ x) (h1 : x < 18446744073709551616) (hn : n < 64) (hn0 : 0 < n) :
    Calls Tryz.prog 126 #[.int .u64 x, .int .i64 n] w fun e w' => e = .returned (.int .u64 (rotS x n)) ∧ w = w' := by
  have E := and63 n hn
  go_enter Tryz.func126, Tryz.ntmps126
  go_wp2
  go_ret
  exact ⟨ret_int' (or_rot x n h0 h1 hn), rfl⟩

theorem rotl_i (x k : Int) (w : World) (hx : 0 ≤ x ∧ x < 18446744073709551616) (h0 : 0 < k) (h1 : k < 64) :
    Calls Tryz.prog 126 #[.int .u64 x, .int .i64 k] w fun e w' => e = .returned (.int .u64 (rotS x k.toNat)) ∧ w = w' := by
  obtain ⟨n, rfl⟩ := Int.eq_ofNat_of_zero_le (Int.le_of_lt h0)
  exact rotl_any x n w hx.1 hx.2 (by omega) (by omega)
theorem turn_i (x k : Int) (w : World) (hx : 0 ≤ x ∧ x < 18446744073709551616) (h0 : 0 < k) (h1 : k < 64) :
    Calls Tryz.prog 114 #[.int .u64 x, .int .i64 k] w fun e w' => e = .returned (.int .u64 (rotS x k.toNat)) ∧ w = w' := by
  obtain ⟨n, rfl⟩ := Int.eq_ofNat_of_zero_le (Int.le_of_lt h0)
  exact turn_any x n w hx.1 hx.2 (by omega)
theorem below_drewN {B : Nat} {a w : World} (h : Below B a w) (n : Nat) : Below B a (w.drewN n) := h.trans ⟨rfl, rfl, rfl, Nat.le_refl _, fun _ _ => rfl⟩
/-- four words -/
abbrev St := Int × Int × Int × Int
/-- a state as a value -/
abbrev St.v (s : St) : Value := .agg #[.int .u64 s.1, .int .u64 s.2.1, .int .u64 s.2.2.1, .int .u64 s.2.2.2]
def St.ok (s : St) : Prop := (0 ≤ s.1 ∧ s.1 < 18446744073709551616) ∧ (0 ≤ s.2.1 ∧ s.2.1 < 18446744073709551616) ∧ (0 ≤ s.2.2.1 ∧ s.2.2.1 < 18446744073709551616) ∧ (0 ≤ s.2.2.2 ∧ s.2.2.2 < 18446744073709551616)
def ad (a b : Int) : Int := IntKind.u64.wrap (a + b)
def xo (a b : Int) : Int := bits .xor .u64 a b
/-- one round -/
def rnd (s : St) : St :=
  let a := ad s.1 s.2.1
  let b := xo (rotS s.2.1 13) a
  let a := rotS a 32
  let c := ad s.2.2.1 s.2.2.2
  let d := xo (rotS s.2.2.2 16) c
  let a := ad a d
  let d := xo (rotS d 21) a
  let c := ad c b
  let b := xo (rotS b 17) c
  let c := rotS c 32
  (a, b, c, d)
theorem ad_lt (a b : Int) : 0 ≤ ad a b ∧ ad a b < 18446744073709551616 := by unfold ad; rw [IntKind.wrap_u64]; omega
theorem xo_lt (a b : Int) : 0 ≤ xo a b ∧ xo a b < 18446744073709551616 := by
  unfold xo bits; rw [IntKind.wrap_u64]; omega

set_option maxHeartbeats 1000000 in
set_option maxRecDepth 100000 in
theorem round_any (a b c d : Int) (w : World) (ha : 0 ≤ a ∧ a < 18446744073709551616) (hb : 0 ≤ b ∧ b < 18446744073709551616) (hc : 0 ≤ c ∧ c < 18446744073709551616) (hd : 0 ≤ d ∧ d < 18446744073709551616) :
    Calls Tryz.prog 122 #[.agg #[.int .u64 a, .int .u64 b, .int .u64 c, .int .u64 d]] w fun e w' => e = .returned (St.v (rnd (a, b, c, d))) ∧ Below w.heap.size w w' := by
  go_enter Tryz.func122, Tryz.ntmps122
  go_wp2
  go_quiet (fail)
  go_wp2_with (go_at_call 126; refine (rotl_i _ _ _ (by first | exact hb | exact hd | exact ad_lt _ _ | exact xo_lt _ _) (by decide) (by decide)).mono ?_; rintro e w' ⟨rfl, rfl⟩)
  refine bodyPost_ret (v := St.v (rnd (a, b, c, d))) (by simp [results, Tryz.results122, go_sem, rnd, ad, xo]) rfl ⟨rfl, ?_⟩
  repeat (first | exact Below.refl _ _ | refine Below.setCell ?_ (by simp) _ | refine below_drewN ?_ _ | refine Below.alloc ?_ (by simp) _)

set_option maxHeartbeats 1000000 in
set_option maxRecDepth 100000 in
theorem refRound_any (a b c d : Int) (w : World) (ha : 0 ≤ a ∧ a < 18446744073709551616) (hb : 0 ≤ b ∧ b < 18446744073709551616) (hc : 0 ≤ c ∧ c < 18446744073709551616) (hd : 0 ≤ d ∧ d < 18446744073709551616) :
    Calls Tryz.prog 95 #[.agg #[.int .u64 a, .int .u64 b, .int .u64 c, .int .u64 d]] w fun e w' => e = .returned (St.v (rnd (a, b, c, d))) ∧ Below w.heap.size w w' := by
  go_enter Tryz.func95, Tryz.ntmps95
  go_wp2
  go_quiet (fail)
  go_wp2_with (go_at_call 114; refine (turn_i _ _ _ (by first | exact hb | exact hd | exact ad_lt _ _ | exact xo_lt _ _) (by decide) (by decide)).mono ?_; rintro e w' ⟨rfl, rfl⟩)
  refine bodyPost_ret (v := St.v (rnd (a, b, c, d))) (by simp [results, Tryz.results95, go_sem, rnd, ad, xo]) rfl ⟨rfl, ?_⟩
  repeat (first | exact Below.refl _ _ | refine Below.setCell ?_ (by simp) _ | refine below_drewN ?_ _ | refine Below.alloc ?_ (by simp) _)

theorem rnd_ok (s : St) : (rnd s).ok := ⟨ad_lt _ _, xo_lt _ _, rotS_lt _ _ (ad_lt _ _).1 (ad_lt _ _).2 (by decide), xo_lt _ _⟩
theorem round_s (s : St) (w : World) (h : s.ok) :
    Calls Tryz.prog 122 #[s.v] w fun e w' => e = .returned (St.v (rnd s)) ∧ Below w.heap.size w w' :=
  round_any s.1 s.2.1 s.2.2.1 s.2.2.2 w h.1 h.2.1 h.2.2.1 h.2.2.2
theorem refRound_s (s : St) (w : World) (h : s.ok) :
    Calls Tryz.prog 95 #[s.v] w fun e w' => e = .returned (St.v (rnd s)) ∧ Below w.heap.size w w' :=
  refRound_any s.1 s.2.1 s.2.2.1 s.2.2.2 w h.1 h.2.1 h.2.2.1 h.2.2.2

/-- eight bytes mixed in -/
def mix (s : St) (m : Int) : St :=
  let r := rnd (rnd (s.1, s.2.1, s.2.2.1, xo s.2.2.2 m))
  (xo r.1 m, r.2.1, r.2.2.1, r.2.2.2)
theorem mix_ok (s : St) (m : Int) : (mix s m).ok :=
  have h := rnd_ok (rnd (s.1, s.2.1, s.2.2.1, xo s.2.2.2 m))
  ⟨xo_lt _ _, h.2.1, h.2.2.1, h.2.2.2⟩
/-- the hash of a state -/
def fin (s : St) : Int :=
  let r := rnd (rnd (rnd (rnd (s.1, s.2.1, xo s.2.2.1 255, s.2.2.2))))
  xo (xo (xo r.1 r.2.1) r.2.2.1) r.2.2.2
theorem bcell {W w1 : World} (hb : Below W.heap.size W w1) : (∀ b o, b < W.heap.size → w1.cell? ⟨b, o, none⟩ = W.cell? ⟨b, o, none⟩) ∧ (∀ b o, b < W.heap.size → w1.frozen? ⟨b, o, none⟩ = W.frozen? ⟨b, o, none⟩) :=
  ⟨fun b o h => hb.cell (p := ⟨b, o, none⟩) h, fun b o h => hb.frozen (p := ⟨b, o, none⟩) h⟩

set_option maxHeartbeats 1000000 in
theorem start_any (k0 k1 : Int) (w : World) (h0 : 0 ≤ k0 ∧ k0 < 18446744073709551616) (h1 : 0 ≤ k1 ∧ k1 < 18446744073709551616) :
    Calls Tryz.prog 106 #[.agg #[.int .u64 k0, .int .u64 k1]] w fun e w' => e = .returned (St.v (xo k0 8317987319222330741, xo k1 7237128888997146477, xo k0 7816392313619706465, xo k1 8387220255154660723)) ∧ Below w.heap.size w w' := by
  go_enter Tryz.func106, Tryz.ntmps106
  go_wp2
  refine bodyPost_ret (v := St.v (xo k0 8317987319222330741, xo k1 7237128888997146477, xo k0 7816392313619706465, xo k1 8387220255154660723)) (by simp [results, Tryz.results106, go_sem, xo]) rfl ⟨rfl, ?_⟩
  repeat (first | exact Below.refl _ _ | refine Below.setCell ?_ (by simp) _ | refine below_drewN ?_ _ | refine Below.alloc ?_ (by simp) _)

/-- block g is just these cells, none of them frozen -/
def Blk (w : World) (g : Nat) (t : TypeId) (cs : Array Value) : Prop := w.heap[g]? = some (.cells cs t (0, 0))
theorem Blk.lt {w : World} {g : Nat} {t : TypeId} {cs : Array Value} (h : Blk w g t cs) : g < w.heap.size := by
  rcases Nat.lt_or_ge g w.heap.size with hlt | hge
  · exact hlt
  · unfold Blk at h; rw [Array.getElem?_eq_none hge] at h; cases h
theorem Blk.cell {w : World} {g : Nat} {t : TypeId} {cs : Array Value} (h : Blk w g t cs) (i : Nat) : w.cell? ⟨g, i, none⟩ = cs[i]? := cell_of_row w g i cs t (0, 0) h
theorem Blk.frozen {w : World} {g : Nat} {t : TypeId} {cs : Array Value} (h : Blk w g t cs) (i : Nat) : w.frozen? ⟨g, i, none⟩ = false := by
  unfold Blk at h
  simp [World.frozen?, h]
theorem Blk.new (w : World) (t : TypeId) (cs : Array Value) : Blk (w.alloc (.cells cs t)) w.heap.size t cs := heap_alloc_new w _
theorem Blk.alloc {w : World} {g : Nat} {t : TypeId} {cs : Array Value} (h : Blk w g t cs) (o : Obj) : Blk (w.alloc o) g t cs := (Below.heap_alloc w o g h.lt).trans h
theorem Blk.below {w w' : World} {g : Nat} {t : TypeId} {cs : Array Value} {B : Nat} (h : Blk w g t cs) (hb : Below B w w') (hg : g < B) : Blk w' g t cs := (hb.block g hg).trans h
theorem Blk.set_ {w : World} {g : Nat} {t : TypeId} {cs : Array Value} (h : Blk w g t cs) (i : Nat) (u : Value) : Blk (w.setCell ⟨g, i, none⟩ u) g t (cs.setIfInBounds i u) := by
  unfold Blk at h ⊢
  simp [World.setCell, Array.getElem?_modify, h]
theorem Blk.far {w : World} {g : Nat} {t : TypeId} {cs : Array Value} (h : Blk w g t cs) {p : Addr} (hp : g ≠ p.block) (u : Value) : Blk (w.setCell p u) g t cs := (Below.heap_setCell w p u g hp).trans h
theorem four {w : World} {g : Nat} {t : TypeId} {a b c d : Value} (h : Blk w g t #[a, b, c, d]) :
    (w.cell? ⟨g, 0, none⟩ = some a ∧ w.cell? ⟨g, 1, none⟩ = some b ∧ w.cell? ⟨g, 2, none⟩ = some c ∧ w.cell? ⟨g, 3, none⟩ = some d) ∧
    (w.frozen? ⟨g, 0, none⟩ = false ∧ w.frozen? ⟨g, 1, none⟩ = false ∧ w.frozen? ⟨g, 2, none⟩ = false ∧ w.frozen? ⟨g, 3, none⟩ = false) :=
  ⟨⟨h.cell 0, h.cell 1, h.cell 2, h.cell 3⟩, h.frozen 0, h.frozen 1, h.frozen 2, h.frozen 3⟩

set_option maxHeartbeats 1000000 in
theorem mixed_any (a b c d m : Int) (w : World) (ha : 0 ≤ a ∧ a < 18446744073709551616) (hb : 0 ≤ b ∧ b < 18446744073709551616) (hc : 0 ≤ c ∧ c < 18446744073709551616) (hd : 0 ≤ d ∧ d < 18446744073709551616) :
    Calls Tryz.prog 107 #[.agg #[.int .u64 a, .int .u64 b, .int .u64 c, .int .u64 d], .int .u64 m] w fun e w' => e = .returned (St.v (mix (a, b, c, d) m)) ∧ Below w.heap.size w w' := by
  go_enter Tryz.func107, Tryz.ntmps107
  go_wp2_with fail
  refine (round_any _ _ _ _ _ ha hb hc (xo_lt _ _)).mono ?_
  rintro e w1 ⟨rfl, hb1⟩
  go_wp2_with fail
  refine (round_s _ _ (rnd_ok _)).mono ?_
  rintro e w2 ⟨rfl, hb2⟩
  dsimp only [St.v]
  have hb12 := hb1.trans (hb2.mono hb1.size)
  have hs := hb12.size
  have B1 := ((Blk.new w 167 #[.int .u64 a, .int .u64 b, .int .u64 c, .int .u64 (bits BinOp.xor IntKind.u64 d m)]).alloc (.cells #[.int .u64 0, .int .u64 0, .int .u64 0, .int .u64 0] 167)).below hb12 (by simp; omega)
  have B2 := (Blk.new (w.alloc (.cells #[.int .u64 a, .int .u64 b, .int .u64 c, .int .u64 (bits BinOp.xor IntKind.u64 d m)] 167)) 167 #[.int .u64 0, .int .u64 0, .int .u64 0, .int .u64 0]).below hb12 (by simp)
  have hW : Below w.heap.size w w2 := Below.trans (by repeat (first | exact Below.refl _ _ | refine Below.setCell ?_ (by simp) _ | refine below_drewN ?_ _ | refine Below.alloc ?_ (by simp) _)) (hb12.mono (by simp; omega))
  obtain ⟨r, hr⟩ : ∃ r, rnd (rnd (a, b, c, xo d m)) = r := ⟨_, rfl⟩
  rw [hr]
  have M := Lib.hid (show mix (a, b, c, d) m = (xo r.1 m, r.2.1, r.2.2.1, r.2.2.2) by rw [← hr]; rfl)
  simp only [World.size_alloc] at B2 hs
  clear hr hb1 hb2 hb12
  obtain ⟨⟨c0, c1, c2, c3⟩, f0, f1, f2, f3⟩ := four B1
  obtain ⟨⟨d0, d1, d2, d3⟩, g0, g1, g2, g3⟩ := four B2
  clear B1 B2
  go_wp2
  refine bodyPost_ret (v := St.v (mix (a, b, c, d) m)) (by rw [M.out]; simp [results, Tryz.results107, go_sem, xo, c0, c1, c2, c3, d0, d1, d2, d3]) rfl ⟨rfl, ?_⟩
  repeat (first | (with_reducible exact hW) | ((with_reducible refine Below.setCell ?_ ?hp _); (case hp => simp; try omega)) | (with_reducible refine below_drewN ?_ _) | ((with_reducible refine Below.alloc ?_ ?hp _); (case hp => simp; try omega)))
end Go.Proofs.YtchimfgbdfmegaaGreat.Sip
/- Contracts of the words, the last word and the finishing of package sip, for every string. -/
namespace Go.Proofs.YtchimfgbdfmegaaGreat.Sip
open Go.RowKit
set_option linter.unusedVariables false
set_option maxRecDepth 100000
set_option maxRecDepth 100000
set_option linter.unusedSimpArgs false

set_option maxHeartbeats 1000000 in
theorem finished_any (a b c d : Int) (w : World) (ha : 0 ≤ a ∧ a < 18446744073709551616) (hb : 0 ≤ b ∧ b < 18446744073709551616) (hc : 0 ≤ c ∧ c < 18446744073709551616) (hd : 0 ≤ d ∧ d < 18446744073709551616) :
    Calls Tryz.prog 110 #[.agg #[.int .u64 a, .int .u64 b, .int .u64 c, .int .u64 d]] w fun e w' => e = .returned (.int .u64 (fin (a, b, c, d))) ∧ Below w.heap.size w w' := by
  go_enter Tryz.func110, Tryz.ntmps110
  go_wp2_with fail
  refine (round_any _ _ _ _ _ ha hb (xo_lt _ _) hd).mono ?_
  rintro e w1 ⟨rfl, hb1⟩
  go_wp2_with fail
  refine (round_s _ _ (rnd_ok _)).mono ?_
  rintro e w2 ⟨rfl, hb2⟩
  go_wp2_with fail
  refine (round_s _ _ (rnd_ok _)).mono ?_
  rintro e w3 ⟨rfl, hb3⟩
  go_wp2_with fail
  refine (round_s _ _ (rnd_ok _)).mono ?_
  rintro e w4 ⟨rfl, hb4⟩
  dsimp only [St.v]
  have hb12 := hb1.trans (hb2.mono hb1.size)
  have hb13 := hb12.trans (hb3.mono hb12.size)
  have hb14 := hb13.trans (hb4.mono hb13.size)
  have hs := hb14.size
  have B1 := (Blk.new w 167 #[.int .u64 a, .int .u64 b, .int .u64 (bits BinOp.xor IntKind.u64 c 255), .int .u64 d]).below hb14 (by simp)
  have hW : Below w.heap.size w w4 := Below.trans ((Below.refl _ _).alloc (Nat.le_refl _) _) (hb14.mono (by simp))
  obtain ⟨r, hr⟩ : ∃ r, rnd (rnd (rnd (rnd (a, b, xo c 255, d)))) = r := ⟨_, rfl⟩
  rw [hr]
  have M := Lib.hid (show fin (a, b, c, d) = xo (xo (xo r.1 r.2.1) r.2.2.1) r.2.2.2 by rw [← hr]; rfl)
  simp only [World.size_alloc] at hs
  clear hr hb1 hb2 hb12 hb3 hb4 hb13 hb14
  obtain ⟨⟨c0, c1, c2, c3⟩, f0, f1, f2, f3⟩ := four B1
  clear B1
  go_wp2
  go_ret
  refine ⟨ret_int' M.out.symm, ?_⟩
  repeat (first | (with_reducible exact hW) | ((with_reducible refine Below.setCell ?_ ?hp _); (case hp => simp; try omega)) | (with_reducible refine below_drewN ?_ _) | ((with_reducible refine Below.alloc ?_ ?hp _); (case hp => simp; try omega)))
theorem finished_s (s : St) (w : World) (h : s.ok) :
    Calls Tryz.prog 110 #[s.v] w fun e w' => e = .returned (.int .u64 (fin s)) ∧ Below w.heap.size w w' :=
  finished_any s.1 s.2.1 s.2.2.1 s.2.2.2 w h.1 h.2.1 h.2.2.1 h.2.2.2
theorem mixed_s (s : St) (m : Int) (w : World) (h : s.ok) :
    Calls Tryz.prog 107 #[s.v, .int .u64 m] w fun e w' => e = .returned (St.v (mix s m)) ∧ Below w.heap.size w w' :=
  mixed_any s.1 s.2.1 s.2.2.1 s.2.2.2 m w h.1 h.2.1 h.2.2.1 h.2.2.2

/-- the i-th byte, 0 behind the end -/
def byteAt (l : List UInt8) (i : Nat) : Nat := (l[i]?.map UInt8.toNat).getD 0
theorem byteAt_lt (l : List UInt8) (i : Nat) : byteAt l i < 256 := by
  unfold byteAt
  cases l[i]? with
  | none => decide
  | some b => exact b.toNat_lt
theorem byteAt_ge (l : List UInt8) (i : Nat) (h : l.length ≤ i) : byteAt l i = 0 := by
  unfold byteAt; rw [List.getElem?_eq_none h]; rfl
theorem byteAt_get (s : ByteArray) (i : Nat) (h : i < s.size) : (s[i]'h).toNat = byteAt s.data.toList i := by
  have h1 : i < s.data.toList.length := by simpa using h
  unfold byteAt
  rw [List.getElem?_eq_getElem h1]
  rfl
/-- the little-endian number of the k bytes from a place on -/
def le8 (l : List UInt8) (at_ : Nat) : Nat → Nat
  | 0 => 0
  | k + 1 => le8 l at_ k + byteAt l (at_ + k) * 2 ^ (8 * k)
theorem le8_lt (l : List UInt8) (at_ k : Nat) : le8 l at_ k < 2 ^ (8 * k) := by
  induction k with
  | zero => simp [le8]
  | succ k ih =>
    have hb := byteAt_lt l (at_ + k)
    have e : 2 ^ (8 * (k + 1)) = 256 * 2 ^ (8 * k) := by rw [Nat.mul_add, Nat.pow_add, Nat.mul_comm]
    have h2 : byteAt l (at_ + k) * 2 ^ (8 * k) ≤ 255 * 2 ^ (8 * k) := Nat.mul_le_mul_right _ (by omega)
    simp only [le8]
    rw [e]
    omega
theorem wrapU (n : Nat) (h : n < 18446744073709551616) : IntKind.u64.wrap (n : Int) = n := by rw [IntKind.wrap_u64]; omega
theorem or_dis (i A B : Nat) (hA : A % 2 ^ i = 0) (hB : B < 2 ^ i) (h1 : A < 18446744073709551616) (h2 : B < 18446744073709551616) :
    bits .or .u64 (A : Int) (B : Int) = ((A + B : Nat) : Int) := by
  rw [bits_or_u64_nat A B h1 h2]
  obtain ⟨q, rfl⟩ : ∃ q, A = 2 ^ i * q := ⟨A / 2 ^ i, by have := Nat.div_add_mod A (2 ^ i); omega⟩
  rw [Nat.two_pow_add_eq_or_of_lt hB]
theorem shl_byte (y i : Nat) (hy : y < 256) (hi : i ≤ 56) : IntKind.u64.wrap (IntKind.u64.wrap (y : Int) * 2 ^ i) = ((y * 2 ^ i : Nat) : Int) ∧ y * 2 ^ i < 18446744073709551616 ∧ y * 2 ^ i < 2 ^ (i + 8) := by
  have hp : 2 ^ i ≤ 2 ^ 56 := Nat.pow_le_pow_right (by decide) hi
  have h3 : y * 2 ^ i ≤ 255 * 2 ^ i := Nat.mul_le_mul_right _ (by omega)
  have h4 : (2 : Nat) ^ (i + 8) = 256 * 2 ^ i := by rw [Nat.pow_add, Nat.mul_comm]
  have h5 : 0 < 2 ^ i := Nat.two_pow_pos i
  refine ⟨?_, by omega, by omega⟩
  rw [wrapU y (by omega), show (y : Int) * 2 ^ i = ((y * 2 ^ i : Nat) : Int) by simp, wrapU _ (by omega)]
theorem orK (i : Nat) (hi : i ≤ 48) (X y : Nat) (hX : X < 18446744073709551616) (hm : X % 2 ^ (i + 8) = 0) (hy : y < 256) :
    bits .or .u64 (X : Int) (IntKind.u64.wrap (IntKind.u64.wrap (y : Int) * 2 ^ i)) = ((X + y * 2 ^ i : Nat) : Int) := by
  obtain ⟨e, h1, h2⟩ := shl_byte y i hy (by omega)
  rw [e, or_dis (i + 8) X _ hm h2 hX h1]
theorem word_step (s : ByteArray) (k : Nat) (hs : s.size = 8) (hk : k < 8) :
    bits .or .u64 (le8 s.data.toList 0 k : Int) (IntKind.u64.wrap (IntKind.u64.wrap ((s[k]'(by omega)).toNat : Int) * 2 ^ (8 * k))) = (le8 s.data.toList 0 (k + 1) : Int) := by
  have hb : (s[k]'(by omega)).toNat < 256 := (s[k]'(by omega)).toNat_lt
  obtain ⟨e, h1, h2⟩ := shl_byte _ (8 * k) hb (by omega)
  rw [e]
  have hl := le8_lt s.data.toList 0 k
  have hp : (2 : Nat) ^ (8 * k) ≤ 2 ^ 56 := Nat.pow_le_pow_right (by decide) (by omega)
  rw [bits_or_u64_nat _ _ (by omega) h1, Nat.or_comm, Nat.mul_comm (s[k]'(by omega)).toNat, ← Nat.two_pow_add_eq_or_of_lt hl]
  rw [byteAt_get s k (by omega)]
  simp only [le8, Nat.zero_add]
  rw [Nat.add_comm, Nat.mul_comm (2 ^ (8 * k))]

set_option maxHeartbeats 400000 in
theorem word_any (s : ByteArray) (w : World) (hs : s.size = 8)  :
    Calls Tryz.prog 108 #[.string s] w fun e w' => e = .returned (.int .u64 (le8 s.data.toList 0 8)) ∧ w = w' := by
  go_enter Tryz.func108, Tryz.ntmps108
  go_wp2
  go_loop [3, 5] (fun m i => ∃ k : Nat, k ≤ 8 ∧ i = .int .i64 k ∧ m = .int .u64 (le8 s.data.toList 0 k)) (fun _ i => 8 - (intOf i).toNat)
  case atStart => exact ⟨0, by omega, rfl, rfl⟩
  case round =>
    obtain ⟨k, hk, rfl, rfl⟩ := hrel
    by_cases hlt : k < 8
    · have S := Lib.hid (word_step s k hs hlt)
      go_wp2
      go_round
      case rel => exact ⟨k + 1, by omega, by go_num, by rw [S.out]⟩
      case measure => simp [intOf]; omega
    · obtain rfl : k = 8 := by omega
      go_wp2
      go_ret
      exact ⟨rfl, rfl⟩
/-- the last word: what is left of eight, and the length -/
def lastN (l : List UInt8) (n : Nat) : Nat := le8 l 0 8 + n % 256 * 72057594037927936
theorem last_top (N : Nat) : IntKind.u64.wrap ((N : Int) * 72057594037927936) = ((N % 256 * 72057594037927936 : Nat) : Int) := by
  rw [IntKind.wrap_u64]; omega
theorem orQ (i : Nat) (hi : i ≤ 48) (q y : Nat) (hX : q < 2 ^ (56 - i)) (hy : y < 256) :
    bits .or .u64 ((q * 2 ^ (i + 8) : Nat) : Int) (IntKind.u64.wrap (IntKind.u64.wrap (y : Int) * 2 ^ i)) = (((q * 256 + y) * 2 ^ i : Nat) : Int) := by
  have h1 : q * 2 ^ (i + 8) < 2 ^ (56 - i) * 2 ^ (i + 8) := Nat.mul_lt_mul_of_pos_right hX (Nat.two_pow_pos _)
  rw [← Nat.pow_add, show 56 - i + (i + 8) = 64 by omega] at h1
  rw [orK i hi _ y h1 (Nat.mul_mod_left _ _) hy, Nat.add_mul, Nat.pow_add, Nat.mul_assoc, Nat.mul_comm (2 ^ i)]
theorem le8_eight (l : List UInt8) : le8 l 0 8 = byteAt l 0 + byteAt l 1 * 256 + byteAt l 2 * 65536 + byteAt l 3 * 16777216 + byteAt l 4 * 4294967296 + byteAt l 5 * 1099511627776 + byteAt l 6 * 281474976710656 + byteAt l 7 * 72057594037927936 := by
  simp only [le8, Nat.zero_add, Nat.reduceMul, Nat.reducePow, Nat.mul_one, Nat.pow_zero, Nat.mul_zero]
theorem hstep (q y B C : Nat) (hq : q < B) (hy : y < 256) (hC : C = B * 256) : q * 256 + y < C := by subst hC; omega
theorem or0 (x : Int) (q y : Nat) (hx : x = ((q * 256 : Nat) : Int)) (hX : q < 72057594037927936) (hy : y < 256) :
    bits .or .u64 x (IntKind.u64.wrap (y : Int)) = ((q * 256 + y : Nat) : Int) := by
  have h := orQ 0 (by decide) q y hX hy
  simp only [Nat.reducePow, Nat.mul_one, Int.mul_one, Int.pow_zero, Nat.pow_zero, Nat.zero_add] at h
  rw [wrapU y (by omega)] at h ⊢
  rw [wrapU y (by omega)] at h
  subst hx
  exact h
theorem or8 (x : Int) (q y : Nat) (hx : x = ((q * 65536 : Nat) : Int)) (hX : q < 281474976710656) (hy : y < 256) :
    bits .or .u64 x (IntKind.u64.wrap (IntKind.u64.wrap (y : Int) * 256)) = (((q * 256 + y) * 256 : Nat) : Int) := by
  have h := orQ 8 (by decide) q y hX hy
  simp only [Int.reducePow, Nat.reducePow, Nat.reduceAdd] at h
  subst hx
  exact h
theorem or16 (x : Int) (q y : Nat) (hx : x = ((q * 16777216 : Nat) : Int)) (hX : q < 1099511627776) (hy : y < 256) :
    bits .or .u64 x (IntKind.u64.wrap (IntKind.u64.wrap (y : Int) * 65536)) = (((q * 256 + y) * 65536 : Nat) : Int) := by
  have h := orQ 16 (by decide) q y hX hy
  simp only [Int.reducePow, Nat.reducePow, Nat.reduceAdd] at h
  subst hx
  exact h
theorem or24 (x : Int) (q y : Nat) (hx : x = ((q * 4294967296 : Nat) : Int)) (hX : q < 4294967296) (hy : y < 256) :
    bits .or .u64 x (IntKind.u64.wrap (IntKind.u64.wrap (y : Int) * 16777216)) = (((q * 256 + y) * 16777216 : Nat) : Int) := by
  have h := orQ 24 (by decide) q y hX hy
  simp only [Int.reducePow, Nat.reducePow, Nat.reduceAdd] at h
  subst hx
  exact h
theorem or32 (x : Int) (q y : Nat) (hx : x = ((q * 1099511627776 : Nat) : Int)) (hX : q < 16777216) (hy : y < 256) :
    bits .or .u64 x (IntKind.u64.wrap (IntKind.u64.wrap (y : Int) * 4294967296)) = (((q * 256 + y) * 4294967296 : Nat) : Int) := by
  have h := orQ 32 (by decide) q y hX hy
  simp only [Int.reducePow, Nat.reducePow, Nat.reduceAdd] at h
  subst hx
  exact h
theorem or40 (x : Int) (q y : Nat) (hx : x = ((q * 281474976710656 : Nat) : Int)) (hX : q < 65536) (hy : y < 256) :
    bits .or .u64 x (IntKind.u64.wrap (IntKind.u64.wrap (y : Int) * 1099511627776)) = (((q * 256 + y) * 1099511627776 : Nat) : Int) := by
  have h := orQ 40 (by decide) q y hX hy
  simp only [Int.reducePow, Nat.reducePow, Nat.reduceAdd] at h
  subst hx
  exact h
theorem or48 (x : Int) (q y : Nat) (hx : x = ((q * 72057594037927936 : Nat) : Int)) (hX : q < 256) (hy : y < 256) :
    bits .or .u64 x (IntKind.u64.wrap (IntKind.u64.wrap (y : Int) * 281474976710656)) = (((q * 256 + y) * 281474976710656 : Nat) : Int) := by
  have h := orQ 48 (by decide) q y hX hy
  simp only [Int.reducePow, Nat.reducePow, Nat.reduceAdd] at h
  subst hx
  exact h
theorem lastNum0 (N : Nat)  :
    IntKind.u64.wrap ((N : Int) * 72057594037927936) = ((N % 256 * 72057594037927936 : Nat) : Int) := by
  exact last_top N
theorem lastEq0 (s : ByteArray) (N : Nat) (hs : s.size = 0) :
    IntKind.u64.wrap ((N : Int) * 72057594037927936) = (lastN s.data.toList N : Int) := by
  have z0 := byteAt_ge s.data.toList 0 (by rw [Array.length_toList]; show s.size ≤ 0; omega)
  have z1 := byteAt_ge s.data.toList 1 (by rw [Array.length_toList]; show s.size ≤ 1; omega)
  have z2 := byteAt_ge s.data.toList 2 (by rw [Array.length_toList]; show s.size ≤ 2; omega)
  have z3 := byteAt_ge s.data.toList 3 (by rw [Array.length_toList]; show s.size ≤ 3; omega)
  have z4 := byteAt_ge s.data.toList 4 (by rw [Array.length_toList]; show s.size ≤ 4; omega)
  have z5 := byteAt_ge s.data.toList 5 (by rw [Array.length_toList]; show s.size ≤ 5; omega)
  have z6 := byteAt_ge s.data.toList 6 (by rw [Array.length_toList]; show s.size ≤ 6; omega)
  have z7 := byteAt_ge s.data.toList 7 (by rw [Array.length_toList]; show s.size ≤ 7; omega)
  refine (lastNum0 N  ).trans (congrArg (Nat.cast (R := Int)) ?_)
  unfold lastN
  rw [le8_eight, z0, z1, z2, z3, z4, z5, z6, z7]
  clear z0 z1 z2 z3 z4 z5 z6 z7
  generalize N % 256 = L
  omega
theorem lastNum1 (N y0 : Nat) (l0 : y0 < 256) :
    bits .or .u64 (IntKind.u64.wrap ((N : Int) * 72057594037927936)) (IntKind.u64.wrap (y0 : Int)) = ((y0 + N % 256 * 72057594037927936 : Nat) : Int) := by
  have b1 : N % 256 * 281474976710656 < 72057594037927936 := by omega
  have h1 : IntKind.u64.wrap ((N : Int) * 72057594037927936) = ((N % 256 * 281474976710656 * 256 : Nat) : Int) := by rw [last_top, Nat.mul_assoc]
  have h0 := or0 _ _ y0 h1 b1 l0
  refine h0.trans (congrArg (Nat.cast (R := Int)) ?_)
  clear h0 h1 b1 l0
  generalize N % 256 = L
  omega
theorem lastEq1 (s : ByteArray) (N : Nat) (hs : s.size = 1) :
    bits .or .u64 (IntKind.u64.wrap ((N : Int) * 72057594037927936)) (IntKind.u64.wrap ((s[0]'(by omega)).toNat : Int)) = (lastN s.data.toList N : Int) := by
  have g0 := byteAt_get s 0 (by omega)
  have z1 := byteAt_ge s.data.toList 1 (by rw [Array.length_toList]; show s.size ≤ 1; omega)
  have z2 := byteAt_ge s.data.toList 2 (by rw [Array.length_toList]; show s.size ≤ 2; omega)
  have z3 := byteAt_ge s.data.toList 3 (by rw [Array.length_toList]; show s.size ≤ 3; omega)
  have z4 := byteAt_ge s.data.toList 4 (by rw [Array.length_toList]; show s.size ≤ 4; omega)
  have z5 := byteAt_ge s.data.toList 5 (by rw [Array.length_toList]; show s.size ≤ 5; omega)
  have z6 := byteAt_ge s.data.toList 6 (by rw [Array.length_toList]; show s.size ≤ 6; omega)
  have z7 := byteAt_ge s.data.toList 7 (by rw [Array.length_toList]; show s.size ≤ 7; omega)
  rw [g0]
  refine (lastNum1 N _ (byteAt_lt _ _)).trans (congrArg (Nat.cast (R := Int)) ?_)
  unfold lastN
  rw [le8_eight, z1, z2, z3, z4, z5, z6, z7]
  clear g0 z1 z2 z3 z4 z5 z6 z7
  generalize byteAt s.data.toList 0 = y0
  generalize N % 256 = L
  omega
theorem lastNum2 (N y0 y1 : Nat) (l0 : y0 < 256) (l1 : y1 < 256) :
    bits .or .u64 (bits .or .u64 (IntKind.u64.wrap ((N : Int) * 72057594037927936)) (IntKind.u64.wrap (IntKind.u64.wrap (y1 : Int) * 256))) (IntKind.u64.wrap (y0 : Int)) = ((y0 + y1 * 256 + N % 256 * 72057594037927936 : Nat) : Int) := by
  have b2 : N % 256 * 1099511627776 < 281474976710656 := by omega
  have h2 : IntKind.u64.wrap ((N : Int) * 72057594037927936) = ((N % 256 * 1099511627776 * 65536 : Nat) : Int) := by rw [last_top, Nat.mul_assoc]
  have h1 := or8 _ _ y1 h2 b2 l1
  have b1 := hstep _ y1 281474976710656 72057594037927936 b2 l1 (by omega)
  have h0 := or0 _ _ y0 h1 b1 l0
  refine h0.trans (congrArg (Nat.cast (R := Int)) ?_)
  clear h0 h1 h2 b1 b2 l0 l1
  generalize N % 256 = L
  omega
theorem lastEq2 (s : ByteArray) (N : Nat) (hs : s.size = 2) :
    bits .or .u64 (bits .or .u64 (IntKind.u64.wrap ((N : Int) * 72057594037927936)) (IntKind.u64.wrap (IntKind.u64.wrap ((s[1]'(by omega)).toNat : Int) * 256))) (IntKind.u64.wrap ((s[0]'(by omega)).toNat : Int)) = (lastN s.data.toList N : Int) := by
  have g0 := byteAt_get s 0 (by omega)
  have g1 := byteAt_get s 1 (by omega)
  have z2 := byteAt_ge s.data.toList 2 (by rw [Array.length_toList]; show s.size ≤ 2; omega)
  have z3 := byteAt_ge s.data.toList 3 (by rw [Array.length_toList]; show s.size ≤ 3; omega)
  have z4 := byteAt_ge s.data.toList 4 (by rw [Array.length_toList]; show s.size ≤ 4; omega)
  have z5 := byteAt_ge s.data.toList 5 (by rw [Array.length_toList]; show s.size ≤ 5; omega)
  have z6 := byteAt_ge s.data.toList 6 (by rw [Array.length_toList]; show s.size ≤ 6; omega)
  have z7 := byteAt_ge s.data.toList 7 (by rw [Array.length_toList]; show s.size ≤ 7; omega)
  rw [g0, g1]
  refine (lastNum2 N _ _ (byteAt_lt _ _) (byteAt_lt _ _)).trans (congrArg (Nat.cast (R := Int)) ?_)
  unfold lastN
  rw [le8_eight, z2, z3, z4, z5, z6, z7]
  clear g0 g1 z2 z3 z4 z5 z6 z7
  generalize byteAt s.data.toList 0 = y0
  generalize byteAt s.data.toList 1 = y1
  generalize N % 256 = L
  omega
theorem lastNum3 (N y0 y1 y2 : Nat) (l0 : y0 < 256) (l1 : y1 < 256) (l2 : y2 < 256) :
    bits .or .u64 (bits .or .u64 (bits .or .u64 (IntKind.u64.wrap ((N : Int) * 72057594037927936)) (IntKind.u64.wrap (IntKind.u64.wrap (y2 : Int) * 65536))) (IntKind.u64.wrap (IntKind.u64.wrap (y1 : Int) * 256))) (IntKind.u64.wrap (y0 : Int)) = ((y0 + y1 * 256 + y2 * 65536 + N % 256 * 72057594037927936 : Nat) : Int) := by
  have b3 : N % 256 * 4294967296 < 1099511627776 := by omega
  have h3 : IntKind.u64.wrap ((N : Int) * 72057594037927936) = ((N % 256 * 4294967296 * 16777216 : Nat) : Int) := by rw [last_top, Nat.mul_assoc]
  have h2 := or16 _ _ y2 h3 b3 l2
  have b2 := hstep _ y2 1099511627776 281474976710656 b3 l2 (by omega)
  have h1 := or8 _ _ y1 h2 b2 l1
  have b1 := hstep _ y1 281474976710656 72057594037927936 b2 l1 (by omega)
  have h0 := or0 _ _ y0 h1 b1 l0
  refine h0.trans (congrArg (Nat.cast (R := Int)) ?_)
  clear h0 h1 h2 h3 b1 b2 b3 l0 l1 l2
  generalize N % 256 = L
  omega
theorem lastEq3 (s : ByteArray) (N : Nat) (hs : s.size = 3) :
    bits .or .u64 (bits .or .u64 (bits .or .u64 (IntKind.u64.wrap ((N : Int) * 72057594037927936)) (IntKind.u64.wrap (IntKind.u64.wrap ((s[2]'(by omega)).toNat : Int) * 65536))) (IntKind.u64.wrap (IntKind.u64.wrap ((s[1]'(by omega)).toNat : Int) * 256))) (IntKind.u64.wrap ((s[0]'(by omega)).toNat : Int)) = (lastN s.data.toList N : Int) := by
  have g0 := byteAt_get s 0 (by omega)
  have g1 := byteAt_get s 1 (by omega)
  have g2 := byteAt_get s 2 (by omega)
  have z3 := byteAt_ge s.data.toList 3 (by rw [Array.length_toList]; show s.size ≤ 3; omega)
  have z4 := byteAt_ge s.data.toList 4 (by rw [Array.length_toList]; show s.size ≤ 4; omega)
  have z5 := byteAt_ge s.data.toList 5 (by rw [Array.length_toList]; show s.size ≤ 5; omega)
  have z6 := byteAt_ge s.data.toList 6 (by rw [Array.length_toList]; show s.size ≤ 6; omega)
  have z7 := byteAt_ge s.data.toList 7 (by rw [Array.length_toList]; show s.size ≤ 7; omega)
  rw [g0, g1, g2]
  refine (lastNum3 N _ _ _ (byteAt_lt _ _) (byteAt_lt _ _) (byteAt_lt _ _)).trans (congrArg (Nat.cast (R := Int)) ?_)
  unfold lastN
  rw [le8_eight, z3, z4, z5, z6, z7]
  clear g0 g1 g2 z3 z4 z5 z6 z7
  generalize byteAt s.data.toList 0 = y0
  generalize byteAt s.data.toList 1 = y1
  generalize byteAt s.data.toList 2 = y2
  generalize N % 256 = L
  omega
theorem lastNum4 (N y0 y1 y2 y3 : Nat) (l0 : y0 < 256) (l1 : y1 < 256) (l2 : y2 < 256) (l3 : y3 < 256) :
    bits .or .u64 (bits .or .u64 (bits .or .u64 (bits .or .u64 (IntKind.u64.wrap ((N : Int) * 72057594037927936)) (IntKind.u64.wrap (IntKind.u64.wrap (y3 : Int) * 16777216))) (IntKind.u64.wrap (IntKind.u64.wrap (y2 : Int) * 65536))) (IntKind.u64.wrap (IntKind.u64.wrap (y1 : Int) * 256))) (IntKind.u64.wrap (y0 : Int)) = ((y0 + y1 * 256 + y2 * 65536 + y3 * 16777216 + N % 256 * 72057594037927936 : Nat) : Int) := by
  have b4 : N % 256 * 16777216 < 4294967296 := by omega
  have h4 : IntKind.u64.wrap ((N : Int) * 72057594037927936) = ((N % 256 * 16777216 * 4294967296 : Nat) : Int) := by rw [last_top, Nat.mul_assoc]
  have h3 := or24 _ _ y3 h4 b4 l3
  have b3 := hstep _ y3 4294967296 1099511627776 b4 l3 (by omega)
  have h2 := or16 _ _ y2 h3 b3 l2
  have b2 := hstep _ y2 1099511627776 281474976710656 b3 l2 (by omega)
  have h1 := or8 _ _ y1 h2 b2 l1
  have b1 := hstep _ y1 281474976710656 72057594037927936 b2 l1 (by omega)
  have h0 := or0 _ _ y0 h1 b1 l0
  refine h0.trans (congrArg (Nat.cast (R := Int)) ?_)
  clear h0 h1 h2 h3 h4 b1 b2 b3 b4 l0 l1 l2 l3
  generalize N % 256 = L
  omega
theorem lastEq4 (s : ByteArray) (N : Nat) (hs : s.size = 4) :
    bits .or .u64 (bits .or .u64 (bits .or .u64 (bits .or .u64 (IntKind.u64.wrap ((N : Int) * 72057594037927936)) (IntKind.u64.wrap (IntKind.u64.wrap ((s[3]'(by omega)).toNat : Int) * 16777216))) (IntKind.u64.wrap (IntKind.u64.wrap ((s[2]'(by omega)).toNat : Int) * 65536))) (IntKind.u64.wrap (IntKind.u64.wrap ((s[1]'(by omega)).toNat : Int) * 256))) (IntKind.u64.wrap ((s[0]'(by omega)).toNat : Int)) = (lastN s.data.toList N : Int) := by
  have g0 := byteAt_get s 0 (by omega)
  have g1 := byteAt_get s 1 (by omega)
  have g2 := byteAt_get s 2 (by omega)
  have g3 := byteAt_get s 3 (by omega)
  have z4 := byteAt_ge s.data.toList 4 (by rw [Array.length_toList]; show s.size ≤ 4; omega)
  have z5 := byteAt_ge s.data.toList 5 (by rw [Array.length_toList]; show s.size ≤ 5; omega)
  have z6 := byteAt_ge s.data.toList 6 (by rw [Array.length_toList]; show s.size ≤ 6; omega)
  have z7 := byteAt_ge s.data.toList 7 (by rw [Array.length_toList]; show s.size ≤ 7; omega)
  rw [g0, g1, g2, g3]
  refine (lastNum4 N _ _ _ _ (byteAt_lt _ _) (byteAt_lt _ _) (byteAt_lt _ _) (byteAt_lt _ _)).trans (congrArg (Nat.cast (R := Int)) ?_)
  unfold lastN
  rw [le8_eight, z4, z5, z6, z7]
  clear g0 g1 g2 g3 z4 z5 z6 z7
  generalize byteAt s.data.toList 0 = y0
  generalize byteAt s.data.toList 1 = y1
  generalize byteAt s.data.toList 2 = y2
  generalize byteAt s.data.toList 3 = y3
  generalize N % 256 = L
  omega
theorem lastNum5 (N y0 y1 y2 y3 y4 : Nat) (l0 : y0 < 256) (l1 : y1 < 256) (l2 : y2 < 256) (l3 : y3 < 256) (l4 : y4 < 256) :
    bits .or .u64 (bits .or .u64 (bits .or .u64 (bits .or .u64 (bits .or .u64 (IntKind.u64.wrap ((N : Int) * 72057594037927936)) (IntKind.u64.wrap (IntKind.u64.wrap (y4 : Int) * 4294967296))) (IntKind.u64.wrap (IntKind.u64.wrap (y3 : Int) * 16777216))) (IntKind.u64.wrap (IntKind.u64.wrap (y2 : Int) * 65536))) (IntKind.u64.wrap (IntKind.u64.wrap (y1 : Int) * 256))) (IntKind.u64.wrap (y0 : Int)) = ((y0 + y1 * 256 + y2 * 65536 + y3 * 16777216 + y4 * 4294967296 + N % 256 * 72057594037927936 : Nat) : Int) := by
  have b5 : N % 256 * 65536 < 16777216 := by omega
  have h5 : IntKind.u64.wrap ((N : Int) * 72057594037927936) = ((N % 256 * 65536 * 1099511627776 : Nat) : Int) := by rw [last_top, Nat.mul_assoc]
  have h4 := or32 _ _ y4 h5 b5 l4
  have b4 := hstep _ y4 16777216 4294967296 b5 l4 (by omega)
  have h3 := or24 _ _ y3 h4 b4 l3
  have b3 := hstep _ y3 4294967296 1099511627776 b4 l3 (by omega)
  have h2 := or16 _ _ y2 h3 b3 l2
  have b2 := hstep _ y2 1099511627776 281474976710656 b3 l2 (by omega)
  have h1 := or8 _ _ y1 h2 b2 l1
  have b1 := hstep _ y1 281474976710656 72057594037927936 b2 l1 (by omega)
  have h0 := or0 _ _ y0 h1 b1 l0
  refine h0.trans (congrArg (Nat.cast (R := Int)) ?_)
  clear h0 h1 h2 h3 h4 h5 b1 b2 b3 b4 b5 l0 l1 l2 l3 l4
  generalize N % 256 = L
  omega
theorem lastEq5 (s : ByteArray) (N : Nat) (hs : s.size = 5) :
    bits .or .u64 (bits .or .u64 (bits .or .u64 (bits .or .u64 (bits .or .u64 (IntKind.u64.wrap ((N : Int) * 72057594037927936)) (IntKind.u64.wrap (IntKind.u64.wrap ((s[4]'(by omega)).toNat : Int) * 4294967296))) (IntKind.u64.wrap (IntKind.u64.wrap ((s[3]'(by omega)).toNat : Int) * 16777216))) (IntKind.u64.wrap (IntKind.u64.wrap ((s[2]'(by omega)).toNat : Int) * 65536))) (IntKind.u64.wrap (IntKind.u64.wrap ((s[1]'(by omega)).toNat : Int) * 256))) (IntKind.u64.wrap ((s[0]'(by omega)).toNat : Int)) = (lastN s.data.toList N : Int) := by
  have g0 := byteAt_get s 0 (by omega)
  have g1 := byteAt_get s 1 (by omega)
  have g2 := byteAt_get s 2 (by omega)
  have g3 := byteAt_get s 3 (by omega)
  have g4 := byteAt_get s 4 (by omega)
  have z5 := byteAt_ge s.data.toList 5 (by rw [Array.length_toList]; show s.size ≤ 5; omega)
  have z6 := byteAt_ge s.data.toList 6 (by rw [Array.length_toList]; show s.size ≤ 6; omega)
  have z7 := byteAt_ge s.data.toList 7 (by rw [Array.length_toList]; show s.size ≤ 7; omega)
  rw [g0, g1, g2, g3, g4]
  refine (lastNum5 N _ _ _ _ _ (byteAt_lt _ _) (byteAt_lt _ _) (byteAt_lt _ _) (byteAt_lt _ _) (byteAt_lt _ _)).trans (congrArg (Nat.cast (R := Int)) ?_)
  unfold lastN
  rw [le8_eight, z5, z6, z7]
  clear g0 g1 g2 g3 g4 z5 z6 z7
  generalize byteAt s.data.toList 0 = y0
  generalize byteAt s.data.toList 1 = y1
  generalize byteAt s.data.toList 2 = y2
  generalize byteAt s.data.toList 3 = y3
  generalize byteAt s.data.toList 4 = y4
  generalize N % 256 = L
  omega
theorem lastNum6 (N y0 y1 y2 y3 y4 y5 : Nat) (l0 : y0 < 256) (l1 : y1 < 256) (l2 : y2 < 256) (l3 : y3 < 256) (l4 : y4 < 256) (l5 : y5 < 256) :
    bits .or .u64 (bits .or .u64 (bits .or .u64 (bits .or .u64 (bits .or .u64 (bits .or .u64 (IntKind.u64.wrap ((N : Int) * 72057594037927936)) (IntKind.u64.wrap (IntKind.u64.wrap (y5 : Int) * 1099511627776))) (IntKind.u64.wrap (IntKind.u64.wrap (y4 : Int) * 4294967296))) (IntKind.u64.wrap (IntKind.u64.wrap (y3 : Int) * 16777216))) (IntKind.u64.wrap (IntKind.u64.wrap (y2 : Int) * 65536))) (IntKind.u64.wrap (IntKind.u64.wrap (y1 : Int) * 256))) (IntKind.u64.wrap (y0 : Int)) = ((y0 + y1 * 256 + y2 * 65536 + y3 * 16777216 + y4 * 4294967296 + y5 * 1099511627776 + N % 256 * 72057594037927936 : Nat) : Int) := by
  have b6 : N % 256 * 256 < 65536 := by omega
  have h6 : IntKind.u64.wrap ((N : Int) * 72057594037927936) = ((N % 256 * 256 * 281474976710656 : Nat) : Int) := by rw [last_top, Nat.mul_assoc]
  have h5 := or40 _ _ y5 h6 b6 l5
  have b5 := hstep _ y5 65536 16777216 b6 l5 (by omega)
  have h4 := or32 _ _ y4 h5 b5 l4
  have b4 := hstep _ y4 16777216 4294967296 b5 l4 (by omega)
  have h3 := or24 _ _ y3 h4 b4 l3
  have b3 := hstep _ y3 4294967296 1099511627776 b4 l3 (by omega)
  have h2 := or16 _ _ y2 h3 b3 l2
  have b2 := hstep _ y2 1099511627776 281474976710656 b3 l2 (by omega)
  have h1 := or8 _ _ y1 h2 b2 l1
  have b1 := hstep _ y1 281474976710656 72057594037927936 b2 l1 (by omega)
  have h0 := or0 _ _ y0 h1 b1 l0
  refine h0.trans (congrArg (Nat.cast (R := Int)) ?_)
  clear h0 h1 h2 h3 h4 h5 h6 b1 b2 b3 b4 b5 b6 l0 l1 l2 l3 l4 l5
  generalize N % 256 = L
  omega
theorem lastEq6 (s : ByteArray) (N : Nat) (hs : s.size = 6) :
    bits .or .u64 (bits .or .u64 (bits .or .u64 (bits .or .u64 (bits .or .u64 (bits .or .u64 (IntKind.u64.wrap ((N : Int) * 72057594037927936)) (IntKind.u64.wrap (IntKind.u64.wrap ((s[5]'(by omega)).toNat : Int) * 1099511627776))) (IntKind.u64.wrap (IntKind.u64.wrap ((s[4]'(by omega)).toNat : Int) * 4294967296))) (IntKind.u64.wrap (IntKind.u64.wrap ((s[3]'(by omega)).toNat : Int) * 16777216))) (IntKind.u64.wrap (IntKind.u64.wrap ((s[2]'(by omega)).toNat : Int) * 65536))) (IntKind.u64.wrap (IntKind.u64.wrap ((s[1]'(by omega)).toNat : Int) * 256))) (IntKind.u64.wrap ((s[0]'(by omega)).toNat : Int)) = (lastN s.data.toList N : Int) := by
  have g0 := byteAt_get s 0 (by omega)
  have g1 := byteAt_get s 1 (by omega)
  have g2 := byteAt_get s 2 (by omega)
  have g3 := byteAt_get s 3 (by omega)
  have g4 := byteAt_get s 4 (by omega)
  have g5 := byteAt_get s 5 (by omega)
  have z6 := byteAt_ge s.data.toList 6 (by rw [Array.length_toList]; show s.size ≤ 6; omega)
  have z7 := byteAt_ge s.data.toList 7 (by rw [Array.length_toList]; show s.size ≤ 7; omega)
  rw [g0, g1, g2, g3, g4, g5]
  refine (lastNum6 N _ _ _ _ _ _ (byteAt_lt _ _) (byteAt_lt _ _) (byteAt_lt _ _) (byteAt_lt _ _) (byteAt_lt _ _) (byteAt_lt _ _)).trans (congrArg (Nat.cast (R := Int)) ?_)
  unfold lastN
  rw [le8_eight, z6, z7]
  clear g0 g1 g2 g3 g4 g5 z6 z7
  generalize byteAt s.data.toList 0 = y0
  generalize byteAt s.data.toList 1 = y1
  generalize byteAt s.data.toList 2 = y2
  generalize byteAt s.data.toList 3 = y3
  generalize byteAt s.data.toList 4 = y4
  generalize byteAt s.data.toList 5 = y5
  generalize N % 256 = L
  omega
theorem lastNum7 (N y0 y1 y2 y3 y4 y5 y6 : Nat) (l0 : y0 < 256) (l1 : y1 < 256) (l2 : y2 < 256) (l3 : y3 < 256) (l4 : y4 < 256) (l5 : y5 < 256) (l6 : y6 < 256) :
    bits .or .u64 (bits .or .u64 (bits .or .u64 (bits .or .u64 (bits .or .u64 (bits .or .u64 (bits .or .u64 (IntKind.u64.wrap ((N : Int) * 72057594037927936)) (IntKind.u64.wrap (IntKind.u64.wrap (y6 : Int) * 281474976710656))) (IntKind.u64.wrap (IntKind.u64.wrap (y5 : Int) * 1099511627776))) (IntKind.u64.wrap (IntKind.u64.wrap (y4 : Int) * 4294967296))) (IntKind.u64.wrap (IntKind.u64.wrap (y3 : Int) * 16777216))) (IntKind.u64.wrap (IntKind.u64.wrap (y2 : Int) * 65536))) (IntKind.u64.wrap (IntKind.u64.wrap (y1 : Int) * 256))) (IntKind.u64.wrap (y0 : Int)) = ((y0 + y1 * 256 + y2 * 65536 + y3 * 16777216 + y4 * 4294967296 + y5 * 1099511627776 + y6 * 281474976710656 + N % 256 * 72057594037927936 : Nat) : Int) := by
  have b7 : N % 256 * 1 < 256 := by omega
  have h7 : IntKind.u64.wrap ((N : Int) * 72057594037927936) = ((N % 256 * 1 * 72057594037927936 : Nat) : Int) := by rw [last_top, Nat.mul_assoc]
  have h6 := or48 _ _ y6 h7 b7 l6
  have b6 := hstep _ y6 256 65536 b7 l6 (by omega)
  have h5 := or40 _ _ y5 h6 b6 l5
  have b5 := hstep _ y5 65536 16777216 b6 l5 (by omega)
  have h4 := or32 _ _ y4 h5 b5 l4
  have b4 := hstep _ y4 16777216 4294967296 b5 l4 (by omega)
  have h3 := or24 _ _ y3 h4 b4 l3
  have b3 := hstep _ y3 4294967296 1099511627776 b4 l3 (by omega)
  have h2 := or16 _ _ y2 h3 b3 l2
  have b2 := hstep _ y2 1099511627776 281474976710656 b3 l2 (by omega)
  have h1 := or8 _ _ y1 h2 b2 l1
  have b1 := hstep _ y1 281474976710656 72057594037927936 b2 l1 (by omega)
  have h0 := or0 _ _ y0 h1 b1 l0
  refine h0.trans (congrArg (Nat.cast (R := Int)) ?_)
  clear h0 h1 h2 h3 h4 h5 h6 h7 b1 b2 b3 b4 b5 b6 b7 l0 l1 l2 l3 l4 l5 l6
  generalize N % 256 = L
  omega
theorem lastEq7 (s : ByteArray) (N : Nat) (hs : s.size = 7) :
    bits .or .u64 (bits .or .u64 (bits .or .u64 (bits .or .u64 (bits .or .u64 (bits .or .u64 (bits .or .u64 (IntKind.u64.wrap ((N : Int) * 72057594037927936)) (IntKind.u64.wrap (IntKind.u64.wrap ((s[6]'(by omega)).toNat : Int) * 281474976710656))) (IntKind.u64.wrap (IntKind.u64.wrap ((s[5]'(by omega)).toNat : Int) * 1099511627776))) (IntKind.u64.wrap (IntKind.u64.wrap ((s[4]'(by omega)).toNat : Int) * 4294967296))) (IntKind.u64.wrap (IntKind.u64.wrap ((s[3]'(by omega)).toNat : Int) * 16777216))) (IntKind.u64.wrap (IntKind.u64.wrap ((s[2]'(by omega)).toNat : Int) * 65536))) (IntKind.u64.wrap (IntKind.u64.wrap ((s[1]'(by omega)).toNat : Int) * 256))) (IntKind.u64.wrap ((s[0]'(by omega)).toNat : Int)) = (lastN s.data.toList N : Int) := by
  have g0 := byteAt_get s 0 (by omega)
  have g1 := byteAt_get s 1 (by omega)
  have g2 := byteAt_get s 2 (by omega)
  have g3 := byteAt_get s 3 (by omega)
  have g4 := byteAt_get s 4 (by omega)
  have g5 := byteAt_get s 5 (by omega)
  have g6 := byteAt_get s 6 (by omega)
  have z7 := byteAt_ge s.data.toList 7 (by rw [Array.length_toList]; show s.size ≤ 7; omega)
  rw [g0, g1, g2, g3, g4, g5, g6]
  refine (lastNum7 N _ _ _ _ _ _ _ (byteAt_lt _ _) (byteAt_lt _ _) (byteAt_lt _ _) (byteAt_lt _ _) (byteAt_lt _ _) (byteAt_lt _ _) (byteAt_lt _ _)).trans (congrArg (Nat.cast (R := Int)) ?_)
  unfold lastN
  rw [le8_eight, z7]
  clear g0 g1 g2 g3 g4 g5 g6 z7
  generalize byteAt s.data.toList 0 = y0
  generalize byteAt s.data.toList 1 = y1
  generalize byteAt s.data.toList 2 = y2
  generalize byteAt s.data.toList 3 = y3
  generalize byteAt s.data.toList 4 = y4
  generalize byteAt s.data.toList 5 = y5
  generalize byteAt s.data.toList 6 = y6
  generalize N % 256 = L
  omega
set_option maxHeartbeats 1000000 in
theorem last_any (s : ByteArray) (N : Nat) (w : World) (hs : s.size < 8) (hN : N ≤ 9223372036854775807) :
    Calls Tryz.prog 109 #[.string s, .int .i64 N] w fun e w' => e = .returned (.int .u64 (lastN s.data.toList N)) ∧ w = w' := by
  rcases (by omega : s.size = 0 ∨ s.size = 1 ∨ s.size = 2 ∨ s.size = 3 ∨ s.size = 4 ∨ s.size = 5 ∨ s.size = 6 ∨ s.size = 7) with h | h | h | h | h | h | h | h
  · clear hs
    go_enter Tryz.func109, Tryz.ntmps109
    go_wp2
    go_ret
    exact ⟨ret_int' (lastEq0 s N h), rfl⟩
  · clear hs
    go_enter Tryz.func109, Tryz.ntmps109
    go_wp2
    go_ret
    exact ⟨ret_int' (lastEq1 s N h), rfl⟩
  · clear hs
    go_enter Tryz.func109, Tryz.ntmps109
    go_wp2
    go_ret
    exact ⟨ret_int' (lastEq2 s N h), rfl⟩
  · clear hs
    go_enter Tryz.func109, Tryz.ntmps109
    go_wp2
    go_ret
    exact ⟨ret_int' (lastEq3 s N h), rfl⟩
  · clear hs
    go_enter Tryz.func109, Tryz.ntmps109
    go_wp2
    go_ret
    exact ⟨ret_int' (lastEq4 s N h), rfl⟩
  · clear hs
    go_enter Tryz.func109, Tryz.ntmps109
    go_wp2
    go_ret
    exact ⟨ret_int' (lastEq5 s N h), rfl⟩
  · clear hs
    go_enter Tryz.func109, Tryz.ntmps109
    go_wp2
    go_ret
    exact ⟨ret_int' (lastEq6 s N h), rfl⟩
  · clear hs
    go_enter Tryz.func109, Tryz.ntmps109
    go_wp2
    go_ret
    exact ⟨ret_int' (lastEq7 s N h), rfl⟩
end Go.Proofs.YtchimfgbdfmegaaGreat.Sip
/- The contract of sip.Sum, for every key and every string of at most a thousand bytes. -/
namespace Go.Proofs.YtchimfgbdfmegaaGreat.Sip
open Go.RowKit
set_option linter.unusedVariables false
set_option maxRecDepth 100000
set_option maxRecDepth 100000
set_option linter.unusedSimpArgs false
def st0 (k0 k1 : Int) : St := (xo k0 8317987319222330741, xo k1 7237128888997146477, xo k0 7816392313619706465, xo k1 8387220255154660723)
/-- the state behind j whole words -/
def stN (k0 k1 : Int) (l : List UInt8) : Nat → St
  | 0 => st0 k0 k1
  | j + 1 => mix (stN k0 k1 l j) (le8 l (8 * j) 8)
theorem stN_ok (k0 k1 : Int) (l : List UInt8) (j : Nat) : (stN k0 k1 l j).ok := by
  cases j with
  | zero => exact ⟨xo_lt _ _, xo_lt _ _, xo_lt _ _, xo_lt _ _⟩
  | succ j => exact mix_ok _ _
def sipZ (k0 k1 : Int) (l : List UInt8) : Int :=
  fin (mix (stN k0 k1 l (l.length / 8)) ((le8 l (8 * (l.length / 8)) 8 + l.length % 256 * 72057594037927936 : Nat) : Int))
theorem le8_congr (l m : List UInt8) (a b n : Nat) (h : ∀ j, j < n → byteAt l (a + j) = byteAt m (b + j)) : le8 l a n = le8 m b n := by
  induction n with
  | zero => rfl
  | succ n ih =>
    simp only [le8]
    rw [ih (fun j hj => h j (by omega)), h n (by omega)]
theorem byteAt_extract (s : ByteArray) (a b j : Nat) (h : j < b - a) : byteAt (s.extract a b).data.toList j = byteAt s.data.toList (a + j) := by
  unfold byteAt
  rw [ByteArray.data_extract, Array.toList_extract, List.extract_eq_take_drop, List.getElem?_take, if_pos h, List.getElem?_drop]
theorem word_at (s : ByteArray) (k : Nat) (w : World) (h : k + 8 ≤ s.size) :
    Calls Tryz.prog 108 #[.string (s.extract k (k + 8))] w fun e w' => e = .returned (.int .u64 (le8 s.data.toList k 8)) ∧ w' = w := by
  have hz : (s.extract k (k + 8)).size = 8 := by rw [ByteArray.size_extract]; omega
  have e : le8 (s.extract k (k + 8)).data.toList 0 8 = le8 s.data.toList k 8 :=
    le8_congr _ _ _ _ _ fun j hj => by rw [Nat.zero_add, byteAt_extract s k (k + 8) j (by omega)]
  rw [← e]
  exact (word_any _ w hz).mono fun _ _ ⟨he, hw⟩ => ⟨he, hw.symm⟩
theorem last_at (s : ByteArray) (w : World) (h : s.size ≤ 1000) :
    Calls Tryz.prog 109 #[.string (s.extract (8 * (s.size / 8)) s.size), .int .i64 s.size] w fun e w' => e = .returned (.int .u64 ((le8 s.data.toList (8 * (s.size / 8)) 8 + s.size % 256 * 72057594037927936 : Nat) : Int)) ∧ w' = w := by
  have hz : (s.extract (8 * (s.size / 8)) s.size).size < 8 := by rw [ByteArray.size_extract]; omega
  have hl : s.data.toList.length = s.size := by rw [Array.length_toList]; rfl
  have hl2 : (s.extract (8 * (s.size / 8)) s.size).data.toList.length = s.size - 8 * (s.size / 8) := by
    rw [Array.length_toList]; show (s.extract _ _).size = _; rw [ByteArray.size_extract]; omega
  have e : lastN (s.extract (8 * (s.size / 8)) s.size).data.toList s.size = le8 s.data.toList (8 * (s.size / 8)) 8 + s.size % 256 * 72057594037927936 := by
    unfold lastN
    rw [le8_congr _ s.data.toList 0 (8 * (s.size / 8)) 8 fun j hj => ?_]
    rw [Nat.zero_add]
    by_cases hj2 : j < s.size - 8 * (s.size / 8)
    · exact byteAt_extract s _ _ j hj2
    · rw [byteAt_ge _ _ (by omega), byteAt_ge _ _ (by omega)]
  rw [← e]
  exact (last_any _ _ w hz (by omega)).mono fun _ _ ⟨he, hw⟩ => ⟨he, hw.symm⟩
theorem Blk.put4 {w : World} {g : Nat} {t : TypeId} {a b c d : Value} (h : Blk w g t #[a, b, c, d]) (a' b' c' d' : Value) :
    Blk ((((w.setCell ⟨g, 0, none⟩ a').setCell ⟨g, 1, none⟩ b').setCell ⟨g, 2, none⟩ c').setCell ⟨g, 3, none⟩ d') g t #[a', b', c', d'] := by
  have h4 := (((h.set_ 0 a').set_ 1 b').set_ 2 c').set_ 3 d'
  simpa using h4
theorem below_put4 {B : Nat} {w0 w : World} {g : Nat} (h : Below B w0 w) (hg : B ≤ g) (a' b' c' d' : Value) :
    Below B w0 ((((w.setCell ⟨g, 0, none⟩ a').setCell ⟨g, 1, none⟩ b').setCell ⟨g, 2, none⟩ c').setCell ⟨g, 3, none⟩ d') :=
  (((h.setCell (p := ⟨g, 0, none⟩) hg a').setCell (p := ⟨g, 1, none⟩) hg b').setCell (p := ⟨g, 2, none⟩) hg c').setCell (p := ⟨g, 3, none⟩) hg d'
set_option maxHeartbeats 1000000 in
theorem sum_any (k0 k1 : Int) (s : ByteArray) (w : World) (h0 : 0 ≤ k0 ∧ k0 < 18446744073709551616) (h1 : 0 ≤ k1 ∧ k1 < 18446744073709551616) (hs : s.size ≤ 1000) :
    Calls Tryz.prog 78 #[.agg #[.int .u64 k0, .int .u64 k1], .string s] w fun e w' => e = .returned (.int .u64 (sipZ k0 k1 s.data.toList)) ∧ Below w.heap.size w w' := by
  go_enter Tryz.func78, Tryz.ntmps78
  go_wp2_with fail
  refine (start_any k0 k1 _ h0 h1).mono ?_
  rintro e w1 ⟨rfl, hb1⟩
  dsimp only [St.v]
  have hW : Below w.heap.size w w1 := Below.trans ((Below.refl _ _).alloc (Nat.le_refl _) _) (hb1.mono (by simp))
  clear hb1
  go_wp2_with fail
  have B1 := Blk.new w1 167 #[.int .u64 (st0 k0 k1).1, .int .u64 (st0 k0 k1).2.1, .int .u64 (st0 k0 k1).2.2.1, .int .u64 (st0 k0 k1).2.2.2]
  have hW2 : Below w.heap.size w (w1.alloc (.cells #[.int .u64 (st0 k0 k1).1, .int .u64 (st0 k0 k1).2.1, .int .u64 (st0 k0 k1).2.2.1, .int .u64 (st0 k0 k1).2.2.2] 167)) := hW.alloc hW.size _
  have hsz := hW.size
  obtain ⟨g, hg⟩ : ∃ g, w1.heap.size = g := ⟨_, rfl⟩
  rw [hg] at B1 hsz ⊢
  go_loopw [7] (fun i wr => ∃ k : Nat, k % 8 = 0 ∧ k ≤ s.size ∧ i = .int .i64 k ∧ Blk wr g 167 #[.int .u64 (stN k0 k1 s.data.toList (k / 8)).1, .int .u64 (stN k0 k1 s.data.toList (k / 8)).2.1, .int .u64 (stN k0 k1 s.data.toList (k / 8)).2.2.1, .int .u64 (stN k0 k1 s.data.toList (k / 8)).2.2.2] ∧ Below w.heap.size w wr) (fun i wr => s.size - (intOf i).toNat)
  case atStart => exact ⟨0, rfl, Nat.zero_le _, rfl, B1, hW2⟩
  case round =>
    clear B1 hW2 hg hW
    obtain ⟨k, hk8, hk, rfl, B, hW⟩ := hrel
    have hok := Lib.hid (stN_ok k0 k1 s.data.toList (k / 8))
    obtain ⟨⟨c0, c1, c2, c3⟩, f0, f1, f2, f3⟩ := four B
    by_cases hlt : k + 8 ≤ s.size
    · go_wp2_with fail
      have E8 : IntKind.i64.wrap ((k : Int) + 8) = (k : Int) + 8 := IntWalk.i64_in _ (by omega)
      have E9 : ((k : Int) + 8).toNat = k + 8 := by omega
      have E10 : (0 : Int) ≤ (k : Int) + 8 := by omega
      have E11 : (k : Int) + 8 ≤ (s.size : Int) := by omega
      have E12 : (k : Int) ≤ (k : Int) + 8 := by omega
      go_still_tail 7, (by kernel_rfl)
      still_call (word_at s k _ hlt)
      refine wpStill_nil ?_
      clear E8 E9 E10 E11 E12
      change wpList _ _ _ _ _ wr.drew
      have Bd : Blk wr.drew g 167 #[.int .u64 (stN k0 k1 s.data.toList (k / 8)).1, .int .u64 (stN k0 k1 s.data.toList (k / 8)).2.1, .int .u64 (stN k0 k1 s.data.toList (k / 8)).2.2.1, .int .u64 (stN k0 k1 s.data.toList (k / 8)).2.2.2] := B
      have hWd : Below w.heap.size w wr.drew := hW.drew
      clear B hW c0 c1 c2 c3 f0 f1 f2 f3
      generalize wr.drew = w3 at *
      go_wp2_with fail
      refine (mixed_s _ _ _ hok.out).mono ?_
      rintro e w4 ⟨rfl, hb4⟩
      dsimp only [St.v]
      have B4 := Bd.below hb4 Bd.lt
      have hW4 : Below w.heap.size w w4 := hWd.trans (hb4.mono hWd.size)
      obtain ⟨⟨c0, c1, c2, c3⟩, f0, f1, f2, f3⟩ := four B4
      clear Bd hWd hb4
      have S : Hid (stN k0 k1 s.data.toList ((k + 8) / 8) = mix (stN k0 k1 s.data.toList (k / 8)) (le8 s.data.toList k 8)) := Lib.hid (by
        rw [show (k + 8) / 8 = k / 8 + 1 by omega]; simp only [stN]; rw [show 8 * (k / 8) = k by omega])
      clear hok
      generalize stN k0 k1 s.data.toList (k / 8) = st at *
      go_wp2
      refine ⟨⟨k + 8, by omega, by omega, by go_num, by rw [S.out]; exact B4.put4 _ _ _ _, below_put4 hW4 hsz _ _ _ _⟩, by simp [intOf]; omega⟩
    · have hkk : k = 8 * (s.size / 8) := by omega
      rw [show (s.size : Int) - (s.size : Int) % 8 = (k : Int) by omega]
      have HK := Lib.hid hkk
      have L := Lib.hid (last_at s wr.drew hs)
      rw [← hkk] at L
      have Z : Hid (sipZ k0 k1 s.data.toList = fin (mix (stN k0 k1 s.data.toList (k / 8)) ((le8 s.data.toList k 8 + s.size % 256 * 72057594037927936 : Nat) : Int))) := Lib.hid (by
        unfold sipZ
        have hl : s.data.toList.length = s.size := by rw [Array.length_toList]; rfl
        rw [hl, ← hkk, show s.size / 8 = k / 8 by omega])
      clear hkk hk8 hlt
      have E0 : (0 : Int) ≤ (k : Int) := by omega
      have E1 : (k : Int) ≤ (s.size : Int) := by omega
      go_wp2_with fail
      go_still_tail 7, (by kernel_rfl)
      still_call L.out
      refine wpStill_nil ?_
      change wpList _ _ _ _ _ wr.drew
      have Bd : Blk wr.drew g 167 #[.int .u64 (stN k0 k1 s.data.toList (k / 8)).1, .int .u64 (stN k0 k1 s.data.toList (k / 8)).2.1, .int .u64 (stN k0 k1 s.data.toList (k / 8)).2.2.1, .int .u64 (stN k0 k1 s.data.toList (k / 8)).2.2.2] := B
      have hWd : Below w.heap.size w wr.drew := hW.drew
      clear B hW c0 c1 c2 c3 f0 f1 f2 f3 L
      generalize wr.drew = w3 at *
      generalize le8 s.data.toList k 8 + s.size % 256 * 72057594037927936 = M at *
      go_wp2_with fail
      refine (mixed_s _ _ _ hok.out).mono ?_
      rintro e w4 ⟨rfl, hb4⟩
      dsimp only [St.v]
      have B4 := Bd.below hb4 Bd.lt
      have hW4 : Below w.heap.size w w4 := hWd.trans (hb4.mono hWd.size)
      obtain ⟨⟨c0, c1, c2, c3⟩, f0, f1, f2, f3⟩ := four B4
      clear Bd hWd hb4 hok
      generalize stN k0 k1 s.data.toList (k / 8) = st at *
      have hok : Hid (mix st M).ok := Lib.hid (mix_ok _ _)
      generalize mix st (M : Int) = st2 at *
      go_wp2_with fail
      refine (finished_s st2 _ hok.out).mono ?_
      rintro e w5 ⟨rfl, hb5⟩
      have hW5 := below_put4 hW4 hsz (.int .u64 st2.1) (.int .u64 st2.2.1) (.int .u64 st2.2.2.1) (.int .u64 st2.2.2.2)
      have hW6 := Lib.hid (hW5.trans (hb5.mono hW5.size))
      clear hW5 hb5 hW4 c0 c1 c2 c3 f0 f1 f2 f3 B4
      go_wp2
      go_ret
      exact ⟨ret_int' Z.out.symm, hW6.out⟩
end Go.Proofs.YtchimfgbdfmegaaGreat.Sip
