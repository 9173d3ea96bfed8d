/- Contracts of the words, the last word and the finishing of package sip, for every string. -/
import Derived.Test.YtehkmgmmelnceaaSa
namespace Go.Proofs.Ytehkmgmmelnceaa
open Go.RowKit
set_option linter.unusedVariables false
set_option linter.unusedSimpArgs false

set_option maxHeartbeats 1000000 in
theorem finished_any (a b c d : Int) (w : World) (ha : 0 ≤ a ∧ a < 18446744073709551616) (hb : 0 ≤ b ∧ b < 18446744073709551616) (hc : 0 ≤ c ∧ c < 18446744073709551616) (hd : 0 ≤ d ∧ d < 18446744073709551616) :
    Calls Try.prog 37 #[.agg #[.int .u64 a, .int .u64 b, .int .u64 c, .int .u64 d]] w fun e w' => e = .returned (.int .u64 (fin (a, b, c, d))) ∧ Below w.heap.size w w' := by
  go_enter Try.func37, Try.ntmps37
  go_wp2_with fail
  refine (round_any _ _ _ _ _ ha hb (xo_lt _ _) hd).mono ?_
  rintro e w1 ⟨rfl, hb1⟩
  go_wp2_with fail
  refine (round_s _ _ (rnd_ok _)).mono ?_
  rintro e w2 ⟨rfl, hb2⟩
  go_wp2_with fail
  refine (round_s _ _ (rnd_ok _)).mono ?_
  rintro e w3 ⟨rfl, hb3⟩
  go_wp2_with fail
  refine (round_s _ _ (rnd_ok _)).mono ?_
  rintro e w4 ⟨rfl, hb4⟩
  dsimp only [St.v]
  have hb12 := hb1.trans (hb2.mono hb1.size)
  have hb13 := hb12.trans (hb3.mono hb12.size)
  have hb14 := hb13.trans (hb4.mono hb13.size)
  have hs := hb14.size
  have B1 := (Blk.new w 65 #[.int .u64 a, .int .u64 b, .int .u64 (bits BinOp.xor IntKind.u64 c 255), .int .u64 d]).below hb14 (by simp)
  have hW : Below w.heap.size w w4 := Below.trans ((Below.refl _ _).alloc (Nat.le_refl _) _) (hb14.mono (by simp))
  obtain ⟨r, hr⟩ : ∃ r, rnd (rnd (rnd (rnd (a, b, xo c 255, d)))) = r := ⟨_, rfl⟩
  rw [hr]
  have M := Lib.hid (show fin (a, b, c, d) = xo (xo (xo r.1 r.2.1) r.2.2.1) r.2.2.2 by rw [← hr]; rfl)
  simp only [World.size_alloc] at hs
  clear hr hb1 hb2 hb12 hb3 hb4 hb13 hb14
  obtain ⟨⟨c0, c1, c2, c3⟩, f0, f1, f2, f3⟩ := four B1
  clear B1
  go_wp2
  go_ret
  refine ⟨ret_int' M.out.symm, ?_⟩
  repeat (first | (with_reducible exact hW) | ((with_reducible refine Below.setCell ?_ ?hp _); (case hp => simp; try omega)) | (with_reducible refine below_drewN ?_ _) | ((with_reducible refine Below.alloc ?_ ?hp _); (case hp => simp; try omega)))
theorem finished_s (s : St) (w : World) (h : s.ok) :
    Calls Try.prog 37 #[s.v] w fun e w' => e = .returned (.int .u64 (fin s)) ∧ Below w.heap.size w w' :=
  finished_any s.1 s.2.1 s.2.2.1 s.2.2.2 w h.1 h.2.1 h.2.2.1 h.2.2.2
theorem mixed_s (s : St) (m : Int) (w : World) (h : s.ok) :
    Calls Try.prog 34 #[s.v, .int .u64 m] w fun e w' => e = .returned (St.v (mix s m)) ∧ Below w.heap.size w w' :=
  mixed_any s.1 s.2.1 s.2.2.1 s.2.2.2 m w h.1 h.2.1 h.2.2.1 h.2.2.2

/-- the i-th byte, 0 behind the end -/
def byteAt (l : List UInt8) (i : Nat) : Nat := (l[i]?.map UInt8.toNat).getD 0
theorem byteAt_lt (l : List UInt8) (i : Nat) : byteAt l i < 256 := by
  unfold byteAt
  cases l[i]? with
  | none => decide
  | some b => exact b.toNat_lt
theorem byteAt_ge (l : List UInt8) (i : Nat) (h : l.length ≤ i) : byteAt l i = 0 := by
  unfold byteAt; rw [List.getElem?_eq_none h]; rfl
theorem byteAt_get (s : ByteArray) (i : Nat) (h : i < s.size) : (s[i]'h).toNat = byteAt s.data.toList i := by
  have h1 : i < s.data.toList.length := by simpa using h
  unfold byteAt
  rw [List.getElem?_eq_getElem h1]
  rfl
/-- the little-endian number of the k bytes from a place on -/
def le8 (l : List UInt8) (at_ : Nat) : Nat → Nat
  | 0 => 0
  | k + 1 => le8 l at_ k + byteAt l (at_ + k) * 2 ^ (8 * k)
theorem le8_lt (l : List UInt8) (at_ k : Nat) : le8 l at_ k < 2 ^ (8 * k) := by
  induction k with
  | zero => simp [le8]
  | succ k ih =>
    have hb := byteAt_lt l (at_ + k)
    have e : 2 ^ (8 * (k + 1)) = 256 * 2 ^ (8 * k) := by rw [Nat.mul_add, Nat.pow_add, Nat.mul_comm]
    have h2 : byteAt l (at_ + k) * 2 ^ (8 * k) ≤ 255 * 2 ^ (8 * k) := Nat.mul_le_mul_right _ (by omega)
    simp only [le8]
    rw [e]
    omega
theorem wrapU (n : Nat) (h : n < 18446744073709551616) : IntKind.u64.wrap (n : Int) = n := by rw [IntKind.wrap_u64]; omega
theorem or_dis (i A B : Nat) (hA : A % 2 ^ i = 0) (hB : B < 2 ^ i) (h1 : A < 18446744073709551616) (h2 : B < 18446744073709551616) :
    bits .or .u64 (A : Int) (B : Int) = ((A + B : Nat) : Int) := by
  rw [bits_or_u64_nat A B h1 h2]
  obtain ⟨q, rfl⟩ : ∃ q, A = 2 ^ i * q := ⟨A / 2 ^ i, by have := Nat.div_add_mod A (2 ^ i); omega⟩
  rw [Nat.two_pow_add_eq_or_of_lt hB]
theorem shl_byte (y i : Nat) (hy : y < 256) (hi : i ≤ 56) : IntKind.u64.wrap (IntKind.u64.wrap (y : Int) * 2 ^ i) = ((y * 2 ^ i : Nat) : Int) ∧ y * 2 ^ i < 18446744073709551616 ∧ y * 2 ^ i < 2 ^ (i + 8) := by
  have hp : 2 ^ i ≤ 2 ^ 56 := Nat.pow_le_pow_right (by decide) hi
  have h3 : y * 2 ^ i ≤ 255 * 2 ^ i := Nat.mul_le_mul_right _ (by omega)
  have h4 : (2 : Nat) ^ (i + 8) = 256 * 2 ^ i := by rw [Nat.pow_add, Nat.mul_comm]
  have h5 : 0 < 2 ^ i := Nat.two_pow_pos i
  refine ⟨?_, by omega, by omega⟩
  rw [wrapU y (by omega), show (y : Int) * 2 ^ i = ((y * 2 ^ i : Nat) : Int) by simp, wrapU _ (by omega)]
theorem orK (i : Nat) (hi : i ≤ 48) (X y : Nat) (hX : X < 18446744073709551616) (hm : X % 2 ^ (i + 8) = 0) (hy : y < 256) :
    bits .or .u64 (X : Int) (IntKind.u64.wrap (IntKind.u64.wrap (y : Int) * 2 ^ i)) = ((X + y * 2 ^ i : Nat) : Int) := by
  obtain ⟨e, h1, h2⟩ := shl_byte y i hy (by omega)
  rw [e, or_dis (i + 8) X _ hm h2 hX h1]
theorem word_step (s : ByteArray) (k : Nat) (hs : s.size = 8) (hk : k < 8) :
    bits .or .u64 (le8 s.data.toList 0 k : Int) (IntKind.u64.wrap (IntKind.u64.wrap ((s[k]'(by omega)).toNat : Int) * 2 ^ (8 * k))) = (le8 s.data.toList 0 (k + 1) : Int) := by
  have hb : (s[k]'(by omega)).toNat < 256 := (s[k]'(by omega)).toNat_lt
  obtain ⟨e, h1, h2⟩ := shl_byte _ (8 * k) hb (by omega)
  rw [e]
  have hl := le8_lt s.data.toList 0 k
  have hp : (2 : Nat) ^ (8 * k) ≤ 2 ^ 56 := Nat.pow_le_pow_right (by decide) (by omega)
  rw [bits_or_u64_nat _ _ (by omega) h1, Nat.or_comm, Nat.mul_comm (s[k]'(by omega)).toNat, ← Nat.two_pow_add_eq_or_of_lt hl]
  rw [byteAt_get s k (by omega)]
  simp only [le8, Nat.zero_add]
  rw [Nat.add_comm, Nat.mul_comm (2 ^ (8 * k))]

set_option maxHeartbeats 400000 in
theorem word_any (s : ByteArray) (w : World) (hs : s.size = 8)  :
    Calls Try.prog 35 #[.string s] w fun e w' => e = .returned (.int .u64 (le8 s.data.toList 0 8)) ∧ w = w' := by
  go_enter Try.func35, Try.ntmps35
  go_wp2
  go_loop [3, 5] (fun m i => ∃ k : Nat, k ≤ 8 ∧ i = .int .i64 k ∧ m = .int .u64 (le8 s.data.toList 0 k)) (fun _ i => 8 - (intOf i).toNat)
  case atStart => exact ⟨0, by omega, rfl, rfl⟩
  case round =>
    obtain ⟨k, hk, rfl, rfl⟩ := hrel
    by_cases hlt : k < 8
    · have S := Lib.hid (word_step s k hs hlt)
      go_wp2
      go_round
      case rel => exact ⟨k + 1, by omega, by go_num, by rw [S.out]⟩
      case measure => simp [intOf]; omega
    · obtain rfl : k = 8 := by omega
      go_wp2
      go_ret
      exact ⟨rfl, rfl⟩
/-- the last word: what is left of eight, and the length -/
def lastN (l : List UInt8) (n : Nat) : Nat := le8 l 0 8 + n % 256 * 72057594037927936
theorem last_top (N : Nat) : IntKind.u64.wrap ((N : Int) * 72057594037927936) = ((N % 256 * 72057594037927936 : Nat) : Int) := by
  rw [IntKind.wrap_u64]; omega
theorem orQ (i : Nat) (hi : i ≤ 48) (q y : Nat) (hX : q < 2 ^ (56 - i)) (hy : y < 256) :
    bits .or .u64 ((q * 2 ^ (i + 8) : Nat) : Int) (IntKind.u64.wrap (IntKind.u64.wrap (y : Int) * 2 ^ i)) = (((q * 256 + y) * 2 ^ i : Nat) : Int) := by
  have h1 : q * 2 ^ (i + 8) < 2 ^ (56 - i) * 2 ^ (i + 8) := Nat.mul_lt_mul_of_pos_right hX (Nat.two_pow_pos _)
  rw [← Nat.pow_add, show 56 - i + (i + 8) = 64 by omega] at h1
  rw [orK i hi _ y h1 (Nat.mul_mod_left _ _) hy, Nat.add_mul, Nat.pow_add, Nat.mul_assoc, Nat.mul_comm (2 ^ i)]
theorem le8_eight (l : List UInt8) : le8 l 0 8 = byteAt l 0 + byteAt l 1 * 256 + byteAt l 2 * 65536 + byteAt l 3 * 16777216 + byteAt l 4 * 4294967296 + byteAt l 5 * 1099511627776 + byteAt l 6 * 281474976710656 + byteAt l 7 * 72057594037927936 := by
  simp only [le8, Nat.zero_add, Nat.reduceMul, Nat.reducePow, Nat.mul_one, Nat.pow_zero, Nat.mul_zero]
theorem hstep (q y B C : Nat) (hq : q < B) (hy : y < 256) (hC : C = B * 256) : q * 256 + y < C := by subst hC; omega
theorem or0 (x : Int) (q y : Nat) (hx : x = ((q * 256 : Nat) : Int)) (hX : q < 72057594037927936) (hy : y < 256) :
    bits .or .u64 x (IntKind.u64.wrap (y : Int)) = ((q * 256 + y : Nat) : Int) := by
  have h := orQ 0 (by decide) q y hX hy
  simp only [Nat.reducePow, Nat.mul_one, Int.mul_one, Int.pow_zero, Nat.pow_zero, Nat.zero_add] at h
  rw [wrapU y (by omega)] at h ⊢
  rw [wrapU y (by omega)] at h
  subst hx
  exact h
theorem or8 (x : Int) (q y : Nat) (hx : x = ((q * 65536 : Nat) : Int)) (hX : q < 281474976710656) (hy : y < 256) :
    bits .or .u64 x (IntKind.u64.wrap (IntKind.u64.wrap (y : Int) * 256)) = (((q * 256 + y) * 256 : Nat) : Int) := by
  have h := orQ 8 (by decide) q y hX hy
  simp only [Int.reducePow, Nat.reducePow, Nat.reduceAdd] at h
  subst hx
  exact h
theorem or16 (x : Int) (q y : Nat) (hx : x = ((q * 16777216 : Nat) : Int)) (hX : q < 1099511627776) (hy : y < 256) :
    bits .or .u64 x (IntKind.u64.wrap (IntKind.u64.wrap (y : Int) * 65536)) = (((q * 256 + y) * 65536 : Nat) : Int) := by
  have h := orQ 16 (by decide) q y hX hy
  simp only [Int.reducePow, Nat.reducePow, Nat.reduceAdd] at h
  subst hx
  exact h
theorem or24 (x : Int) (q y : Nat) (hx : x = ((q * 4294967296 : Nat) : Int)) (hX : q < 4294967296) (hy : y < 256) :
    bits .or .u64 x (IntKind.u64.wrap (IntKind.u64.wrap (y : Int) * 16777216)) = (((q * 256 + y) * 16777216 : Nat) : Int) := by
  have h := orQ 24 (by decide) q y hX hy
  simp only [Int.reducePow, Nat.reducePow, Nat.reduceAdd] at h
  subst hx
  exact h
theorem or32 (x : Int) (q y : Nat) (hx : x = ((q * 1099511627776 : Nat) : Int)) (hX : q < 16777216) (hy : y < 256) :
    bits .or .u64 x (IntKind.u64.wrap (IntKind.u64.wrap (y : Int) * 4294967296)) = (((q * 256 + y) * 4294967296 : Nat) : Int) := by
  have h := orQ 32 (by decide) q y hX hy
  simp only [Int.reducePow, Nat.reducePow, Nat.reduceAdd] at h
  subst hx
  exact h
theorem or40 (x : Int) (q y : Nat) (hx : x = ((q * 281474976710656 : Nat) : Int)) (hX : q < 65536) (hy : y < 256) :
    bits .or .u64 x (IntKind.u64.wrap (IntKind.u64.wrap (y : Int) * 1099511627776)) = (((q * 256 + y) * 1099511627776 : Nat) : Int) := by
  have h := orQ 40 (by decide) q y hX hy
  simp only [Int.reducePow, Nat.reducePow, Nat.reduceAdd] at h
  subst hx
  exact h
theorem or48 (x : Int) (q y : Nat) (hx : x = ((q * 72057594037927936 : Nat) : Int)) (hX : q < 256) (hy : y < 256) :
    bits .or .u64 x (IntKind.u64.wrap (IntKind.u64.wrap (y : Int) * 281474976710656)) = (((q * 256 + y) * 281474976710656 : Nat) : Int) := by
  have h := orQ 48 (by decide) q y hX hy
  simp only [Int.reducePow, Nat.reducePow, Nat.reduceAdd] at h
  subst hx
  exact h
theorem lastNum0 (N : Nat)  :
    IntKind.u64.wrap ((N : Int) * 72057594037927936) = ((N % 256 * 72057594037927936 : Nat) : Int) := by
  exact last_top N
theorem lastEq0 (s : ByteArray) (N : Nat) (hs : s.size = 0) :
    IntKind.u64.wrap ((N : Int) * 72057594037927936) = (lastN s.data.toList N : Int) := by
  have z0 := byteAt_ge s.data.toList 0 (by rw [Array.length_toList]; show s.size ≤ 0; omega)
  have z1 := byteAt_ge s.data.toList 1 (by rw [Array.length_toList]; show s.size ≤ 1; omega)
  have z2 := byteAt_ge s.data.toList 2 (by rw [Array.length_toList]; show s.size ≤ 2; omega)
  have z3 := byteAt_ge s.data.toList 3 (by rw [Array.length_toList]; show s.size ≤ 3; omega)
  have z4 := byteAt_ge s.data.toList 4 (by rw [Array.length_toList]; show s.size ≤ 4; omega)
  have z5 := byteAt_ge s.data.toList 5 (by rw [Array.length_toList]; show s.size ≤ 5; omega)
  have z6 := byteAt_ge s.data.toList 6 (by rw [Array.length_toList]; show s.size ≤ 6; omega)
  have z7 := byteAt_ge s.data.toList 7 (by rw [Array.length_toList]; show s.size ≤ 7; omega)
  refine (lastNum0 N  ).trans (congrArg (Nat.cast (R := Int)) ?_)
  unfold lastN
  rw [le8_eight, z0, z1, z2, z3, z4, z5, z6, z7]
  clear z0 z1 z2 z3 z4 z5 z6 z7
  generalize N % 256 = L
  omega
theorem lastNum1 (N y0 : Nat) (l0 : y0 < 256) :
    bits .or .u64 (IntKind.u64.wrap ((N : Int) * 72057594037927936)) (IntKind.u64.wrap (y0 : Int)) = ((y0 + N % 256 * 72057594037927936 : Nat) : Int) := by
  have b1 : N % 256 * 281474976710656 < 72057594037927936 := by omega
  have h1 : IntKind.u64.wrap ((N : Int) * 72057594037927936) = ((N % 256 * 281474976710656 * 256 : Nat) : Int) := by rw [last_top, Nat.mul_assoc]
  have h0 := or0 _ _ y0 h1 b1 l0
  refine h0.trans (congrArg (Nat.cast (R := Int)) ?_)
  clear h0 h1 b1 l0
  generalize N % 256 = L
  omega
theorem lastEq1 (s : ByteArray) (N : Nat) (hs : s.size = 1) :
    bits .or .u64 (IntKind.u64.wrap ((N : Int) * 72057594037927936)) (IntKind.u64.wrap ((s[0]'(by omega)).toNat : Int)) = (lastN s.data.toList N : Int) := by
  have g0 := byteAt_get s 0 (by omega)
  have z1 := byteAt_ge s.data.toList 1 (by rw [Array.length_toList]; show s.size ≤ 1; omega)
  have z2 := byteAt_ge s.data.toList 2 (by rw [Array.length_toList]; show s.size ≤ 2; omega)
  have z3 := byteAt_ge s.data.toList 3 (by rw [Array.length_toList]; show s.size ≤ 3; omega)
  have z4 := byteAt_ge s.data.toList 4 (by rw [Array.length_toList]; show s.size ≤ 4; omega)
  have z5 := byteAt_ge s.data.toList 5 (by rw [Array.length_toList]; show s.size ≤ 5; omega)
  have z6 := byteAt_ge s.data.toList 6 (by rw [Array.length_toList]; show s.size ≤ 6; omega)
  have z7 := byteAt_ge s.data.toList 7 (by rw [Array.length_toList]; show s.size ≤ 7; omega)
  rw [g0]
  refine (lastNum1 N _ (byteAt_lt _ _)).trans (congrArg (Nat.cast (R := Int)) ?_)
  unfold lastN
  rw [le8_eight, z1, z2, z3, z4, z5, z6, z7]
  clear g0 z1 z2 z3 z4 z5 z6 z7
  generalize byteAt s.data.toList 0 = y0
  generalize N % 256 = L
  omega
theorem lastNum2 (N y0 y1 : Nat) (l0 : y0 < 256) (l1 : y1 < 256) :
    bits .or .u64 (bits .or .u64 (IntKind.u64.wrap ((N : Int) * 72057594037927936)) (IntKind.u64.wrap (IntKind.u64.wrap (y1 : Int) * 256))) (IntKind.u64.wrap (y0 : Int)) = ((y0 + y1 * 256 + N % 256 * 72057594037927936 : Nat) : Int) := by
  have b2 : N % 256 * 1099511627776 < 281474976710656 := by omega
  have h2 : IntKind.u64.wrap ((N : Int) * 72057594037927936) = ((N % 256 * 1099511627776 * 65536 : Nat) : Int) := by rw [last_top, Nat.mul_assoc]
  have h1 := or8 _ _ y1 h2 b2 l1
  have b1 := hstep _ y1 281474976710656 72057594037927936 b2 l1 (by omega)
  have h0 := or0 _ _ y0 h1 b1 l0
  refine h0.trans (congrArg (Nat.cast (R := Int)) ?_)
  clear h0 h1 h2 b1 b2 l0 l1
  generalize N % 256 = L
  omega
theorem lastEq2 (s : ByteArray) (N : Nat) (hs : s.size = 2) :
    bits .or .u64 (bits .or .u64 (IntKind.u64.wrap ((N : Int) * 72057594037927936)) (IntKind.u64.wrap (IntKind.u64.wrap ((s[1]'(by omega)).toNat : Int) * 256))) (IntKind.u64.wrap ((s[0]'(by omega)).toNat : Int)) = (lastN s.data.toList N : Int) := by
  have g0 := byteAt_get s 0 (by omega)
  have g1 := byteAt_get s 1 (by omega)
  have z2 := byteAt_ge s.data.toList 2 (by rw [Array.length_toList]; show s.size ≤ 2; omega)
  have z3 := byteAt_ge s.data.toList 3 (by rw [Array.length_toList]; show s.size ≤ 3; omega)
  have z4 := byteAt_ge s.data.toList 4 (by rw [Array.length_toList]; show s.size ≤ 4; omega)
  have z5 := byteAt_ge s.data.toList 5 (by rw [Array.length_toList]; show s.size ≤ 5; omega)
  have z6 := byteAt_ge s.data.toList 6 (by rw [Array.length_toList]; show s.size ≤ 6; omega)
  have z7 := byteAt_ge s.data.toList 7 (by rw [Array.length_toList]; show s.size ≤ 7; omega)
  rw [g0, g1]
  refine (lastNum2 N _ _ (byteAt_lt _ _) (byteAt_lt _ _)).trans (congrArg (Nat.cast (R := Int)) ?_)
  unfold lastN
  rw [le8_eight, z2, z3, z4, z5, z6, z7]
  clear g0 g1 z2 z3 z4 z5 z6 z7
  generalize byteAt s.data.toList 0 = y0
  generalize byteAt s.data.toList 1 = y1
  generalize N % 256 = L
  omega
theorem lastNum3 (N y0 y1 y2 : Nat) (l0 : y0 < 256) (l1 : y1 < 256) (l2 : y2 < 256) :
    bits .or .u64 (bits .or .u64 (bits .or .u64 (IntKind.u64.wrap ((N : Int) * 72057594037927936)) (IntKind.u64.wrap (IntKind.u64.wrap (y2 : Int) * 65536))) (IntKind.u64.wrap (IntKind.u64.wrap (y1 : Int) * 256))) (IntKind.u64.wrap (y0 : Int)) = ((y0 + y1 * 256 + y2 * 65536 + N % 256 * 72057594037927936 : Nat) : Int) := by
  have b3 : N % 256 * 4294967296 < 1099511627776 := by omega
  have h3 : IntKind.u64.wrap ((N : Int) * 72057594037927936) = ((N % 256 * 4294967296 * 16777216 : Nat) : Int) := by rw [last_top, Nat.mul_assoc]
  have h2 := or16 _ _ y2 h3 b3 l2
  have b2 := hstep _ y2 1099511627776 281474976710656 b3 l2 (by omega)
  have h1 := or8 _ _ y1 h2 b2 l1
  have b1 := hstep _ y1 281474976710656 72057594037927936 b2 l1 (by omega)
  have h0 := or0 _ _ y0 h1 b1 l0
  refine h0.trans (congrArg (Nat.cast (R := Int)) ?_)
  clear h0 h1 h2 h3 b1 b2 b3 l0 l1 l2
  generalize N % 256 = L
  omega
theorem lastEq3 (s : ByteArray) (N : Nat) (hs : s.size = 3) :
    bits .or .u64 (bits .or .u64 (bits .or .u64 (IntKind.u64.wrap ((N : Int) * 72057594037927936)) (IntKind.u64.wrap (IntKind.u64.wrap ((s[2]'(by omega)).toNat : Int) * 65536))) (IntKind.u64.wrap (IntKind.u64.wrap ((s[1]'(by omega)).toNat : Int) * 256))) (IntKind.u64.wrap ((s[0]'(by omega)).toNat : Int)) = (lastN s.data.toList N : Int) := by
  have g0 := byteAt_get s 0 (by omega)
  have g1 := byteAt_get s 1 (by omega)
  have g2 := byteAt_get s 2 (by omega)
  have z3 := byteAt_ge s.data.toList 3 (by rw [Array.length_toList]; show s.size ≤ 3; omega)
  have z4 := byteAt_ge s.data.toList 4 (by rw [Array.length_toList]; show s.size ≤ 4; omega)
  have z5 := byteAt_ge s.data.toList 5 (by rw [Array.length_toList]; show s.size ≤ 5; omega)
  have z6 := byteAt_ge s.data.toList 6 (by rw [Array.length_toList]; show s.size ≤ 6; omega)
  have z7 := byteAt_ge s.data.toList 7 (by rw [Array.length_toList]; show s.size ≤ 7; omega)
  rw [g0, g1, g2]
  refine (lastNum3 N _ _ _ (byteAt_lt _ _) (byteAt_lt _ _) (byteAt_lt _ _)).trans (congrArg (Nat.cast (R := Int)) ?_)
  unfold lastN
  rw [le8_eight, z3, z4, z5, z6, z7]
  clear g0 g1 g2 z3 z4 z5 z6 z7
  generalize byteAt s.data.toList 0 = y0
  generalize byteAt s.data.toList 1 = y1
  generalize byteAt s.data.toList 2 = y2
  generalize N % 256 = L
  omega
theorem lastNum4 (N y0 y1 y2 y3 : Nat) (l0 : y0 < 256) (l1 : y1 < 256) (l2 : y2 < 256) (l3 : y3 < 256) :
    bits .or .u64 (bits .or .u64 (bits .or .u64 (bits .or .u64 (IntKind.u64.wrap ((N : Int) * 72057594037927936)) (IntKind.u64.wrap (IntKind.u64.wrap (y3 : Int) * 16777216))) (IntKind.u64.wrap (IntKind.u64.wrap (y2 : Int) * 65536))) (IntKind.u64.wrap (IntKind.u64.wrap (y1 : Int) * 256))) (IntKind.u64.wrap (y0 : Int)) = ((y0 + y1 * 256 + y2 * 65536 + y3 * 16777216 + N % 256 * 72057594037927936 : Nat) : Int) := by
  have b4 : N % 256 * 16777216 < 4294967296 := by omega
  have h4 : IntKind.u64.wrap ((N : Int) * 72057594037927936) = ((N % 256 * 16777216 * 4294967296 : Nat) : Int) := by rw [last_top, Nat.mul_assoc]
  have h3 := or24 _ _ y3 h4 b4 l3
  have b3 := hstep _ y3 4294967296 1099511627776 b4 l3 (by omega)
  have h2 := or16 _ _ y2 h3 b3 l2
  have b2 := hstep _ y2 1099511627776 281474976710656 b3 l2 (by omega)
  have h1 := or8 _ _ y1 h2 b2 l1
  have b1 := hstep _ y1 281474976710656 72057594037927936 b2 l1 (by omega)
  have h0 := or0 _ _ y0 h1 b1 l0
  refine h0.trans (congrArg (Nat.cast (R := Int)) ?_)
  clear h0 h1 h2 h3 h4 b1 b2 b3 b4 l0 l1 l2 l3
  generalize N % 256 = L
  omega
theorem lastEq4 (s : ByteArray) (N : Nat) (hs : s.size = 4) :
    bits .or .u64 (bits .or .u64 (bits .or .u64 (bits .or .u64 (IntKind.u64.wrap ((N : Int) * 72057594037927936)) (IntKind.u64.wrap (IntKind.u64.wrap ((s[3]'(by omega)).toNat : Int) * 16777216))) (IntKind.u64.wrap (IntKind.u64.wrap ((s[2]'(by omega)).toNat : Int) * 65536))) (IntKind.u64.wrap (IntKind.u64.wrap ((s[1]'(by omega)).toNat : Int) * 256))) (IntKind.u64.wrap ((s[0]'(by omega)).toNat : Int)) = (lastN s.data.toList N : Int) := by
  have g0 := byteAt_get s 0 (by omega)
  have g1 := byteAt_get s 1 (by omega)
  have g2 := byteAt_get s 2 (by omega)
  have g3 := byteAt_get s 3 (by omega)
  have z4 := byteAt_ge s.data.toList 4 (by rw [Array.length_toList]; show s.size ≤ 4; omega)
  have z5 := byteAt_ge s.data.toList 5 (by rw [Array.length_toList]; show s.size ≤ 5; omega)
  have z6 := byteAt_ge s.data.toList 6 (by rw [Array.length_toList]; show s.size ≤ 6; omega)
  have z7 := byteAt_ge s.data.toList 7 (by rw [Array.length_toList]; show s.size ≤ 7; omega)
  rw [g0, g1, g2, g3]
  refine (lastNum4 N _ _ _ _ (byteAt_lt _ _) (byteAt_lt _ _) (byteAt_lt _ _) (byteAt_lt _ _)).trans (congrArg (Nat.cast (R := Int)) ?_)
  unfold lastN
  rw [le8_eight, z4, z5, z6, z7]
  clear g0 g1 g2 g3 z4 z5 z6 z7
  generalize byteAt s.data.toList 0 = y0
  generalize byteAt s.data.toList 1 = y1
  generalize byteAt s.data.toList 2 = y2
  generalize byteAt s.data.toList 3 = y3
  generalize N % 256 = L
  omega
theorem lastNum5 (N y0 y1 y2 y3 y4 : Nat) (l0 : y0 < 256) (l1 : y1 < 256) (l2 : y2 < 256) (l3 : y3 < 256) (l4 : y4 < 256) :
    bits .or .u64 (bits .or .u64 (bits .or .u64 (bits .or .u64 (bits .or .u64 (IntKind.u64.wrap ((N : Int) * 72057594037927936)) (IntKind.u64.wrap (IntKind.u64.wrap (y4 : Int) * 4294967296))) (IntKind.u64.wrap (IntKind.u64.wrap (y3 : Int) * 16777216))) (IntKind.u64.wrap (IntKind.u64.wrap (y2 : Int) * 65536))) (IntKind.u64.wrap (IntKind.u64.wrap (y1 : Int) * 256))) (IntKind.u64.wrap (y0 : Int)) = ((y0 + y1 * 256 + y2 * 65536 + y3 * 16777216 + y4 * 4294967296 + N % 256 * 72057594037927936 : Nat) : Int) := by
  have b5 : N % 256 * 65536 < 16777216 := by omega
  have h5 : IntKind.u64.wrap ((N : Int) * 72057594037927936) = ((N % 256 * 65536 * 1099511627776 : Nat) : Int) := by rw [last_top, Nat.mul_assoc]
  have h4 := or32 _ _ y4 h5 b5 l4
  have b4 := hstep _ y4 16777216 4294967296 b5 l4 (by omega)
  have h3 := or24 _ _ y3 h4 b4 l3
  have b3 := hstep _ y3 4294967296 1099511627776 b4 l3 (by omega)
  have h2 := or16 _ _ y2 h3 b3 l2
  have b2 := hstep _ y2 1099511627776 281474976710656 b3 l2 (by omega)
  have h1 := or8 _ _ y1 h2 b2 l1
  have b1 := hstep _ y1 281474976710656 72057594037927936 b2 l1 (by omega)
  have h0 := or0 _ _ y0 h1 b1 l0
  refine h0.trans (congrArg (Nat.cast (R := Int)) ?_)
  clear h0 h1 h2 h3 h4 h5 b1 b2 b3 b4 b5 l0 l1 l2 l3 l4
  generalize N % 256 = L
  omega
theorem lastEq5 (s : ByteArray) (N : Nat) (hs : s.size = 5) :
    bits .or .u64 (bits .or .u64 (bits .or .u64 (bits .or .u64 (bits .or .u64 (IntKind.u64.wrap ((N : Int) * 72057594037927936)) (IntKind.u64.wrap (IntKind.u64.wrap ((s[4]'(by omega)).toNat : Int) * 4294967296))) (IntKind.u64.wrap (IntKind.u64.wrap ((s[3]'(by omega)).toNat : Int) * 16777216))) (IntKind.u64.wrap (IntKind.u64.wrap ((s[2]'(by omega)).toNat : Int) * 65536))) (IntKind.u64.wrap (IntKind.u64.wrap ((s[1]'(by omega)).toNat : Int) * 256))) (IntKind.u64.wrap ((s[0]'(by omega)).toNat : Int)) = (lastN s.data.toList N : Int) := by
  have g0 := byteAt_get s 0 (by omega)
  have g1 := byteAt_get s 1 (by omega)
  have g2 := byteAt_get s 2 (by omega)
  have g3 := byteAt_get s 3 (by omega)
  have g4 := byteAt_get s 4 (by omega)
  have z5 := byteAt_ge s.data.toList 5 (by rw [Array.length_toList]; show s.size ≤ 5; omega)
  have z6 := byteAt_ge s.data.toList 6 (by rw [Array.length_toList]; show s.size ≤ 6; omega)
  have z7 := byteAt_ge s.data.toList 7 (by rw [Array.length_toList]; show s.size ≤ 7; omega)
  rw [g0, g1, g2, g3, g4]
  refine (lastNum5 N _ _ _ _ _ (byteAt_lt _ _) (byteAt_lt _ _) (byteAt_lt _ _) (byteAt_lt _ _) (byteAt_lt _ _)).trans (congrArg (Nat.cast (R := Int)) ?_)
  unfold lastN
  rw [le8_eight, z5, z6, z7]
  clear g0 g1 g2 g3 g4 z5 z6 z7
  generalize byteAt s.data.toList 0 = y0
  generalize byteAt s.data.toList 1 = y1
  generalize byteAt s.data.toList 2 = y2
  generalize byteAt s.data.toList 3 = y3
  generalize byteAt s.data.toList 4 = y4
  generalize N % 256 = L
  omega
theorem lastNum6 (N y0 y1 y2 y3 y4 y5 : Nat) (l0 : y0 < 256) (l1 : y1 < 256) (l2 : y2 < 256) (l3 : y3 < 256) (l4 : y4 < 256) (l5 : y5 < 256) :
    bits .or .u64 (bits .or .u64 (bits .or .u64 (bits .or .u64 (bits .or .u64 (bits .or .u64 (IntKind.u64.wrap ((N : Int) * 72057594037927936)) (IntKind.u64.wrap (IntKind.u64.wrap (y5 : Int) * 1099511627776))) (IntKind.u64.wrap (IntKind.u64.wrap (y4 : Int) * 4294967296))) (IntKind.u64.wrap (IntKind.u64.wrap (y3 : Int) * 16777216))) (IntKind.u64.wrap (IntKind.u64.wrap (y2 : Int) * 65536))) (IntKind.u64.wrap (IntKind.u64.wrap (y1 : Int) * 256))) (IntKind.u64.wrap (y0 : Int)) = ((y0 + y1 * 256 + y2 * 65536 + y3 * 16777216 + y4 * 4294967296 + y5 * 1099511627776 + N % 256 * 72057594037927936 : Nat) : Int) := by
  have b6 : N % 256 * 256 < 65536 := by omega
  have h6 : IntKind.u64.wrap ((N : Int) * 72057594037927936) = ((N % 256 * 256 * 281474976710656 : Nat) : Int) := by rw [last_top, Nat.mul_assoc]
  have h5 := or40 _ _ y5 h6 b6 l5
  have b5 := hstep _ y5 65536 16777216 b6 l5 (by omega)
  have h4 := or32 _ _ y4 h5 b5 l4
  have b4 := hstep _ y4 16777216 4294967296 b5 l4 (by omega)
  have h3 := or24 _ _ y3 h4 b4 l3
  have b3 := hstep _ y3 4294967296 1099511627776 b4 l3 (by omega)
  have h2 := or16 _ _ y2 h3 b3 l2
  have b2 := hstep _ y2 1099511627776 281474976710656 b3 l2 (by omega)
  have h1 := or8 _ _ y1 h2 b2 l1
  have b1 := hstep _ y1 281474976710656 72057594037927936 b2 l1 (by omega)
  have h0 := or0 _ _ y0 h1 b1 l0
  refine h0.trans (congrArg (Nat.cast (R := Int)) ?_)
  clear h0 h1 h2 h3 h4 h5 h6 b1 b2 b3 b4 b5 b6 l0 l1 l2 l3 l4 l5
  generalize N % 256 = L
  omega
theorem lastEq6 (s : ByteArray) (N : Nat) (hs : s.size = 6) :
    bits .or .u64 (bits .or .u64 (bits .or .u64 (bits .or .u64 (bits .or .u64 (bits .or .u64 (IntKind.u64.wrap ((N : Int) * 72057594037927936)) (IntKind.u64.wrap (IntKind.u64.wrap ((s[5]'(by omega)).toNat : Int) * 1099511627776))) (IntKind.u64.wrap (IntKind.u64.wrap ((s[4]'(by omega)).toNat : Int) * 4294967296))) (IntKind.u64.wrap (IntKind.u64.wrap ((s[3]'(by omega)).toNat : Int) * 16777216))) (IntKind.u64.wrap (IntKind.u64.wrap ((s[2]'(by omega)).toNat : Int) * 65536))) (IntKind.u64.wrap (IntKind.u64.wrap ((s[1]'(by omega)).toNat : Int) * 256))) (IntKind.u64.wrap ((s[0]'(by omega)).toNat : Int)) = (lastN s.data.toList N : Int) := by
  have g0 := byteAt_get s 0 (by omega)
  have g1 := byteAt_get s 1 (by omega)
  have g2 := byteAt_get s 2 (by omega)
  have g3 := byteAt_get s 3 (by omega)
  have g4 := byteAt_get s 4 (by omega)
  have g5 := byteAt_get s 5 (by omega)
  have z6 := byteAt_ge s.data.toList 6 (by rw [Array.length_toList]; show s.size ≤ 6; omega)
  have z7 := byteAt_ge s.data.toList 7 (by rw [Array.length_toList]; show s.size ≤ 7; omega)
  rw [g0, g1, g2, g3, g4, g5]
  refine (lastNum6 N _ _ _ _ _ _ (byteAt_lt _ _) (byteAt_lt _ _) (byteAt_lt _ _) (byteAt_lt _ _) (byteAt_lt _ _) (byteAt_lt _ _)).trans (congrArg (Nat.cast (R := Int)) ?_)
  unfold lastN
  rw [le8_eight, z6, z7]
  clear g0 g1 g2 g3 g4 g5 z6 z7
  generalize byteAt s.data.toList 0 = y0
  generalize byteAt s.data.toList 1 = y1
  generalize byteAt s.data.toList 2 = y2
  generalize byteAt s.data.toList 3 = y3
  generalize byteAt s.data.toList 4 = y4
  generalize byteAt s.data.toList 5 = y5
  generalize N % 256 = L
  omega
theorem lastNum7 (N y0 y1 y2 y3 y4 y5 y6 : Nat) (l0 : y0 < 256) (l1 : y1 < 256) (l2 : y2 < 256) (l3 : y3 < 256) (l4 : y4 < 256) (l5 : y5 < 256) (l6 : y6 < 256) :
    bits .or .u64 (bits .or .u64 (bits .or .u64 (bits .or .u64 (bits .or .u64 (bits .or .u64 (bits .or .u64 (IntKind.u64.wrap ((N : Int) * 72057594037927936)) (IntKind.u64.wrap (IntKind.u64.wrap (y6 : Int) * 281474976710656))) (IntKind.u64.wrap (IntKind.u64.wrap (y5 : Int) * 1099511627776))) (IntKind.u64.wrap (IntKind.u64.wrap (y4 : Int) * 4294967296))) (IntKind.u64.wrap (IntKind.u64.wrap (y3 : Int) * 16777216))) (IntKind.u64.wrap (IntKind.u64.wrap (y2 : Int) * 65536))) (IntKind.u64.wrap (IntKind.u64.wrap (y1 : Int) * 256))) (IntKind.u64.wrap (y0 : Int)) = ((y0 + y1 * 256 + y2 * 65536 + y3 * 16777216 + y4 * 4294967296 + y5 * 1099511627776 + y6 * 281474976710656 + N % 256 * 72057594037927936 : Nat) : Int) := by
  have b7 : N % 256 * 1 < 256 := by omega
  have h7 : IntKind.u64.wrap ((N : Int) * 72057594037927936) = ((N % 256 * 1 * 72057594037927936 : Nat) : Int) := by rw [last_top, Nat.mul_assoc]
  have h6 := or48 _ _ y6 h7 b7 l6
  have b6 := hstep _ y6 256 65536 b7 l6 (by omega)
  have h5 := or40 _ _ y5 h6 b6 l5
  have b5 := hstep _ y5 65536 16777216 b6 l5 (by omega)
  have h4 := or32 _ _ y4 h5 b5 l4
  have b4 := hstep _ y4 16777216 4294967296 b5 l4 (by omega)
  have h3 := or24 _ _ y3 h4 b4 l3
  have b3 := hstep _ y3 4294967296 1099511627776 b4 l3 (by omega)
  have h2 := or16 _ _ y2 h3 b3 l2
  have b2 := hstep _ y2 1099511627776 281474976710656 b3 l2 (by omega)
  have h1 := or8 _ _ y1 h2 b2 l1
  have b1 := hstep _ y1 281474976710656 72057594037927936 b2 l1 (by omega)
  have h0 := or0 _ _ y0 h1 b1 l0
  refine h0.trans (congrArg (Nat.cast (R := Int)) ?_)
  clear h0 h1 h2 h3 h4 h5 h6 h7 b1 b2 b3 b4 b5 b6 b7 l0 l1 l2 l3 l4 l5 l6
  generalize N % 256 = L
  omega
theorem lastEq7 (s : ByteArray) (N : Nat) (hs : s.size = 7) :
    bits .or .u64 (bits .or .u64 (bits .or .u64 (bits .or .u64 (bits .or .u64 (bits .or .u64 (bits .or .u64 (IntKind.u64.wrap ((N : Int) * 72057594037927936)) (IntKind.u64.wrap (IntKind.u64.wrap ((s[6]'(by omega)).toNat : Int) * 281474976710656))) (IntKind.u64.wrap (IntKind.u64.wrap ((s[5]'(by omega)).toNat : Int) * 1099511627776))) (IntKind.u64.wrap (IntKind.u64.wrap ((s[4]'(by omega)).toNat : Int) * 4294967296))) (IntKind.u64.wrap (IntKind.u64.wrap ((s[3]'(by omega)).toNat : Int) * 16777216))) (IntKind.u64.wrap (IntKind.u64.wrap ((s[2]'(by omega)).toNat : Int) * 65536))) (IntKind.u64.wrap (IntKind.u64.wrap ((s[1]'(by omega)).toNat : Int) * 256))) (IntKind.u64.wrap ((s[0]'(by omega)).toNat : Int)) = (lastN s.data.toList N : Int) := by
  have g0 := byteAt_get s 0 (by omega)
  have g1 := byteAt_get s 1 (by omega)
  have g2 := byteAt_get s 2 (by omega)
  have g3 := byteAt_get s 3 (by omega)
  have g4 := byteAt_get s 4 (by omega)
  have g5 := byteAt_get s 5 (by omega)
  have g6 := byteAt_get s 6 (by omega)
  have z7 := byteAt_ge s.data.toList 7 (by rw [Array.length_toList]; show s.size ≤ 7; omega)
  rw [g0, g1, g2, g3, g4, g5, g6]
  refine (lastNum7 N _ _ _ _ _ _ _ (byteAt_lt _ _) (byteAt_lt _ _) (byteAt_lt _ _) (byteAt_lt _ _) (byteAt_lt _ _) (byteAt_lt _ _) (byteAt_lt _ _)).trans (congrArg (Nat.cast (R := Int)) ?_)
  unfold lastN
  rw [le8_eight, z7]
  clear g0 g1 g2 g3 g4 g5 g6 z7
  generalize byteAt s.data.toList 0 = y0
  generalize byteAt s.data.toList 1 = y1
  generalize byteAt s.data.toList 2 = y2
  generalize byteAt s.data.toList 3 = y3
  generalize byteAt s.data.toList 4 = y4
  generalize byteAt s.data.toList 5 = y5
  generalize byteAt s.data.toList 6 = y6
  generalize N % 256 = L
  omega
set_option maxHeartbeats 1000000 in
theorem last_any (s : ByteArray) (N : Nat) (w : World) (hs : s.size < 8) (hN : N ≤ 9223372036854775807) :
    Calls Try.prog 36 #[.string s, .int .i64 N] w fun e w' => e = .returned (.int .u64 (lastN s.data.toList N)) ∧ w = w' := by
  rcases (by omega : s.size = 0 ∨ s.size = 1 ∨ s.size = 2 ∨ s.size = 3 ∨ s.size = 4 ∨ s.size = 5 ∨ s.size = 6 ∨ s.size = 7) with h | h | h | h | h | h | h | h
  · clear hs
    go_enter Try.func36, Try.ntmps36
    go_wp2
    go_ret
    exact ⟨ret_int' (lastEq0 s N h), rfl⟩
  · clear hs
    go_enter Try.func36, Try.ntmps36
    go_wp2
    go_ret
    exact ⟨ret_int' (lastEq1 s N h), rfl⟩
  · clear hs
    go_enter Try.func36, Try.ntmps36
    go_wp2
    go_ret
    exact ⟨ret_int' (lastEq2 s N h), rfl⟩
  · clear hs
    go_enter Try.func36, Try.ntmps36
    go_wp2
    go_ret
    exact ⟨ret_int' (lastEq3 s N h), rfl⟩
  · clear hs
    go_enter Try.func36, Try.ntmps36
    go_wp2
    go_ret
    exact ⟨ret_int' (lastEq4 s N h), rfl⟩
  · clear hs
    go_enter Try.func36, Try.ntmps36
    go_wp2
    go_ret
    exact ⟨ret_int' (lastEq5 s N h), rfl⟩
  · clear hs
    go_enter Try.func36, Try.ntmps36
    go_wp2
    go_ret
    exact ⟨ret_int' (lastEq6 s N h), rfl⟩
  · clear hs
    go_enter Try.func36, Try.ntmps36
    go_wp2
    go_ret
    exact ⟨ret_int' (lastEq7 s N h), rfl⟩
end Go.Proofs.Ytehkmgmmelnceaa
