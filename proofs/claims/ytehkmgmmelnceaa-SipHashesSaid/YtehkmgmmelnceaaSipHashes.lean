/- SipHashes: for every hasher, string and bytes the law returns true: a hasher tells the sum's bits that its mask has, and a key is that of its sixteen bytes. Conditions: none beyond the given statement. -/
import Derived.Test.YtehkmgmmelnceaaRows
import Derived.WalkKit
import Derived.ProofKit
import Derived.OpenShut
import Derived.ShutString
import Derived.ChangeOld
import Derived.Below
import Derived.Carry
import Derived.Lib.SmallJoins
import Derived.Deep.RegionHeld3
import Derived.RegionTactic
import Derived.Deep.DeepCutAuto
import Derived.Test.YtehkmgmmelnceaaSe
namespace Go.Proofs.Ytehkmgmmelnceaa.sipHashes
open Go.ChangeShapes Go.WideShapes Go.ChangeAt Go.RowKit Go.Joins
open Go.ChangeMaps (open_string shut_string)
set_option linter.unusedVariables false
set_option linter.unusedSimpArgs false

theorem own : ownKnob Try.prog.godebug = none := by kernel_rfl
theorem laidOut : laidOutB Try.prog = true := by kernel_rfl
theorem cells33 : Try.prog.cellsOf 33 = 3 := by kernel_rfl
theorem cells22 : Try.prog.cellsOf 22 = 1 := by kernel_rfl
theorem cells24 : Try.prog.cellsOf 24 = 2 := by kernel_rfl

def IsRow (k : IntKind) (w : World) (a : Option Addr) (len cap : Nat) (zs : List Int) : Prop :=
  (a = none ∧ len = 0 ∧ cap = 0 ∧ zs = []) ∨
  ∃ x, a = some x ∧ len ≤ cap ∧ cap ≤ maxLen ∧ zs.length = cap ∧ (∀ i, i < zs.length → w.cell? (x.add i) = some (.int k (zs.getD i 0))) ∧ ∀ n ∈ zs, (Lit.int k n).wf = true
theorem u64b {n : Int} (h : (Lit.int .u64 n).wf = true) : 0 ≤ n ∧ n < 18446744073709551616 := by have := bounds_u64 h; omega

theorem keepc {W W' : World} {p : Addr} {u : Value} (h : W.cell? p = some u) (hb : Below W.heap.size W W') : W'.cell? p = some u := (hb.cell (World.block_lt_of_cell? W p h)).trans h
theorem keepS {w W W' : World} {g8 : Nat} {k0 k1 m q0 q1 : Int} (h : W.cell? ⟨w.heap.size, 0, none⟩ = some (.int .u64 k0) ∧ W.cell? ⟨w.heap.size, 1, none⟩ = some (.int .u64 k1) ∧ W.cell? ⟨w.heap.size, 2, none⟩ = some (.int .u64 m) ∧ W.cell? ⟨g8, 0, none⟩ = some (.int .u64 q0) ∧ W.cell? ⟨g8, 1, none⟩ = some (.int .u64 q1) ∧ Below w.heap.size w W) (hb : Below W.heap.size W W') : W'.cell? ⟨w.heap.size, 0, none⟩ = some (.int .u64 k0) ∧ W'.cell? ⟨w.heap.size, 1, none⟩ = some (.int .u64 k1) ∧ W'.cell? ⟨w.heap.size, 2, none⟩ = some (.int .u64 m) ∧ W'.cell? ⟨g8, 0, none⟩ = some (.int .u64 q0) ∧ W'.cell? ⟨g8, 1, none⟩ = some (.int .u64 q1) ∧ Below w.heap.size w W' := by
  obtain ⟨x0, x1, x2, x3, x4, hW⟩ := h
  exact ⟨keepc x0 hb, keepc x1 hb, keepc x2 hb, keepc x3 hb, keepc x4 hb, hW.trans (hb.mono hW.size)⟩
theorem an_full (Z : Int) (hZ : 0 ≤ Z ∧ Z < 18446744073709551616) : an Z 18446744073709551615 = Z := by
  obtain ⟨z, rfl⟩ := Int.eq_ofNat_of_zero_le hZ.1
  have h := bits_and_u64_nat z 18446744073709551615 (by omega) (by omega)
  rw [show z &&& 18446744073709551615 = z by
    have := Nat.and_two_pow_sub_one_eq_mod z 64
    rw [Nat.mod_eq_of_lt (by omega)] at this
    exact this] at h
  exact h

set_option maxRecDepth 100000 in
set_option maxHeartbeats 2000000 in
theorem walk_no (k0 k1 m : Int) (s : ByteArray) (A : Option Addr) (n cap : Nat) (w : World) (h0 : 0 ≤ k0 ∧ k0 < 18446744073709551616) (h1 : 0 ≤ k1 ∧ k1 < 18446744073709551616) (hm : 0 ≤ m ∧ m < 18446744073709551616) (hs : s.size ≤ maxLen)
    (hn : n ≤ maxLen) (h16 : n ≠ 16) :
    Calls Try.prog 5 #[.agg #[.int .u64 k0, .int .u64 k1, .int .u64 m], .string s, .slice A n cap] w fun e w' => e = .returned (.bool true) ∧ Below w.heap.size w w' := by
  unfold maxLen at hs hn
  have d1 : ((n : Int) != 16) = true := by simp; omega
  have d2 : ((n : Int) == 16) = false := by simp; omega
  go_enter Try.func5, Try.ntmps5
  go_upto_if 17 with (go_at_call 11; refine (awake1 _).mono ?_; rintro e w1 ⟨rfl, hb1⟩)
  go_cut [1] (fun p1 wx => ∃ t : ByteArray, p1 = .string t ∧ t.size ≤ 1000 ∧ w1 = wx)
  case first =>
    go_wp2_with fail
    · rename_i hl
      go_meet
      exact ⟨s.extract 0 100, rfl, by rw [ByteArray.size_extract]; omega, rfl⟩
    · rename_i hl
      go_meet
      exact ⟨s, rfl, by omega, rfl⟩
  case rest =>
    obtain ⟨t, rfl, hts, rfl⟩ := hcut
    have B1 := (Blk.new w 33 #[.int .u64 k0, .int .u64 k1, .int .u64 m]).below hb1 (by simp)
    have hW : Below w.heap.size w w1 := Below.trans ((Below.refl _ _).alloc (Nat.le_refl _) _) (hb1.mono (by simp))
    have c0 : w1.cell? ⟨w.heap.size, 0, none⟩ = some (.int .u64 k0) := B1.cell 0
    have c1 : w1.cell? ⟨w.heap.size, 1, none⟩ = some (.int .u64 k1) := B1.cell 1
    clear hb1
    go_wp2_with fail
    refine (refSum_any k0 k1 t _ h0 h1 hts).mono ?_
    rintro e w2 ⟨rfl, hb2⟩
    have B2 := B1.below hb2 B1.lt
    have hW2 := hW.trans (hb2.mono hW.size)
    clear B1 hW c0 c1 hb2
    go_wp2_with fail
    refine (of_no A n cap _ d1).mono ?_
    rintro e w3 ⟨rfl, hb3⟩
    have B3 := B2.below hb3 B2.lt
    have hW3 := hW2.trans (hb3.mono hW2.size)
    clear B2 hW2 hb3
    go_wp2_with fail
    have HS : ∃ g8 : Nat, g8 = w3.heap.size ∧ (w3.alloc (.cells #[.int .u64 0, .int .u64 0] 24)).cell? ⟨w.heap.size, 0, none⟩ = some (.int .u64 k0) ∧ (w3.alloc (.cells #[.int .u64 0, .int .u64 0] 24)).cell? ⟨w.heap.size, 1, none⟩ = some (.int .u64 k1) ∧ (w3.alloc (.cells #[.int .u64 0, .int .u64 0] 24)).cell? ⟨w.heap.size, 2, none⟩ = some (.int .u64 m) ∧ (w3.alloc (.cells #[.int .u64 0, .int .u64 0] 24)).cell? ⟨g8, 0, none⟩ = some (.int .u64 0) ∧ (w3.alloc (.cells #[.int .u64 0, .int .u64 0] 24)).cell? ⟨g8, 1, none⟩ = some (.int .u64 0) ∧ Below w.heap.size w (w3.alloc (.cells #[.int .u64 0, .int .u64 0] 24)) := by
      have hb := (Below.refl w3.heap.size w3).alloc (Nat.le_refl _) (.cells #[.int .u64 0, .int .u64 0] 24)
      have hB := Blk.new w3 24 #[.int .u64 0, .int .u64 0]
      have B4 := B3.below hb B3.lt
      exact ⟨_, rfl, B4.cell 0, B4.cell 1, B4.cell 2, hB.cell 0, hB.cell 1, hW3.alloc hW3.size _⟩
    obtain ⟨g8, hg8, HS⟩ := HS
    rw [← hg8]
    clear hg8 B3 hW3
    generalize w3.alloc (.cells #[.int .u64 0, .int .u64 0] 24) = w4 at *
    have HT := Lib.hid (keepS HS ((Below.refl _ _).drew))
    clear HS
    go_loop [10, 11, 49] (fun x y i => ∃ k : Nat, k ≤ n ∧ i = .int .i64 k ∧ x = .int .u64 0 ∧ y = .int .u64 0) (fun _ _ i => n - (intOf i).toNat)
    case atStart => exact ⟨0, Nat.zero_le _, rfl, rfl, rfl⟩
    case round =>
      obtain ⟨k, hk, rfl, rfl, rfl⟩ := hrel
      by_cases hlt : k < n
      · go_wp2
        refine ⟨⟨k + 1, by omega, by go_num, rfl, rfl⟩, by simp [intOf]; omega⟩
      · obtain rfl : k = n := by omega
        have e1 : (an (sipZ k0 k1 t.data.toList) m == bits .and .u64 (sipZ k0 k1 t.data.toList) m) = true := by rw [beq_iff_eq]; rfl
        have e2 : (an (sipZ k0 k1 t.data.toList) 18446744073709551615 == sipZ k0 k1 t.data.toList) = true := by rw [beq_iff_eq]; exact an_full _ (sipZ_lt _ _ _)
        go_wp2_with fail
        go_region_held3 (fun w' => w'.cell? ⟨w.heap.size, 0, none⟩ = some (.int .u64 k0) ∧ w'.cell? ⟨w.heap.size, 1, none⟩ = some (.int .u64 k1) ∧ w'.cell? ⟨w.heap.size, 2, none⟩ = some (.int .u64 m) ∧ w'.cell? ⟨g8, 0, none⟩ = some (.int .u64 0) ∧ w'.cell? ⟨g8, 1, none⟩ = some (.int .u64 0) ∧ Below w.heap.size w w')
          (first | exact HT.out | exact keepS HT.out hb2 | exact keepS (by assumption) hb2)
          (first | (go_at_call 15; refine (hash_any k0 k1 _ t _ h0 h1 hts).mono ?_; rintro e w5 ⟨rfl, hb2⟩) | (go_at_call 16; refine (full_any k0 k1 _).mono ?_; rintro e w5 ⟨rfl, hb2⟩))
        have hW2 := (by assumption : w5.cell? ⟨w.heap.size, 0, none⟩ = some (.int .u64 k0) ∧ w5.cell? ⟨w.heap.size, 1, none⟩ = some (.int .u64 k1) ∧ w5.cell? ⟨w.heap.size, 2, none⟩ = some (.int .u64 m) ∧ w5.cell? ⟨g8, 0, none⟩ = some (.int .u64 0) ∧ w5.cell? ⟨g8, 1, none⟩ = some (.int .u64 0) ∧ Below w.heap.size w w5).2.2.2.2.2
        go_wp2
        go_ret
        exact ⟨rfl, hW2⟩

/-- what the law's loop has gathered of the k bytes from a place on -/
def sh (l : List UInt8) (a k : Nat) : Nat := le8 l a k * 2 ^ (8 * (8 - k))
theorem sh_zero (l : List UInt8) (a : Nat) : sh l a 0 = 0 := by simp [sh, le8]
theorem sh_eight (l : List UInt8) (a : Nat) : sh l a 8 = le8 l a 8 := by simp [sh]
theorem sh_lt (l : List UInt8) (a k : Nat) (hk : k ≤ 8) : sh l a k < 18446744073709551616 := by
  have h := le8_lt l a k
  unfold sh
  have h2 : le8 l a k * 2 ^ (8 * (8 - k)) < 2 ^ (8 * k) * 2 ^ (8 * (8 - k)) := Nat.mul_lt_mul_of_pos_right h (Nat.two_pow_pos _)
  rw [← Nat.pow_add, show 8 * k + 8 * (8 - k) = 64 by omega] at h2
  exact h2
theorem sh_succ (l : List UInt8) (a k : Nat) (hk : k < 8) : sh l a k / 256 + byteAt l (a + k) * 72057594037927936 = sh l a (k + 1) := by
  unfold sh
  obtain ⟨r, hr⟩ : ∃ r, 8 - k = r + 1 := ⟨7 - k, by omega⟩
  have e1 : 2 ^ (8 * (8 - k)) = 2 ^ (8 * r) * 256 := by rw [hr, show 8 * (r + 1) = 8 * r + 8 by omega, Nat.pow_add]
  have e2 : 8 - (k + 1) = r := by omega
  have e3 : (72057594037927936 : Nat) = 2 ^ (8 * k) * 2 ^ (8 * r) := by rw [← Nat.pow_add, show 8 * k + 8 * r = 56 by omega]
  rw [e1, e2, e3, ← Nat.mul_assoc, Nat.mul_div_cancel _ (by decide), ← Nat.mul_assoc, ← Nat.add_mul]
  rfl

theorem sh_step (l : List UInt8) (a k : Nat) (hk : k < 8) (h : a + k < l.length) :
    IntKind.u64.wrap (IntKind.u64.wrap ((sh l a k : Nat) / 256 : Int) + ((l[a + k]'h).toNat : Int) * 72057594037927936) = (sh l a (k + 1) : Int) := by
  have h1 := sh_succ l a k hk
  have h2 := sh_lt l a (k + 1) (by omega)
  have h3 : (l[a + k]'h).toNat = byteAt l (a + k) := by unfold byteAt; rw [List.getElem?_eq_getElem h]; rfl
  rw [h3, IntKind.wrap_u64, IntKind.wrap_u64]
  generalize sh l a (k + 1) = x at *
  generalize sh l a k = y at *
  generalize byteAt l (a + k) = z at *
  omega

set_option maxRecDepth 100000 in
set_option maxHeartbeats 2000000 in
theorem walk_yes (k0 k1 m : Int) (s : ByteArray) (b off cap : Nat) (l : List UInt8) (w : World) (h0 : 0 ≤ k0 ∧ k0 < 18446744073709551616) (h1 : 0 ≤ k1 ∧ k1 < 18446744073709551616) (hm : 0 ≤ m ∧ m < 18446744073709551616) (hs : s.size ≤ maxLen)
    (hl : l.length = 16) (hc : ∀ j (hj : j < l.length), w.cell? ⟨b, off + j, none⟩ = some (.int .u8 (l[j].toNat : Int))) (hb : b < w.heap.size) :
    Calls Try.prog 5 #[.agg #[.int .u64 k0, .int .u64 k1, .int .u64 m], .string s, .slice (some ⟨b, off, none⟩) 16 cap] w fun e w' => e = .returned (.bool true) ∧ Below w.heap.size w w' := by
  unfold maxLen at hs
  have HL := Lib.hid hl
  have HC := Lib.hid hc
  clear hl hc
  go_enter Try.func5, Try.ntmps5
  go_upto_if 17 with (go_at_call 11; refine (awake1 _).mono ?_; rintro e w1 ⟨rfl, hb1⟩)
  go_cut [1] (fun p1 wx => ∃ t : ByteArray, p1 = .string t ∧ t.size ≤ 1000 ∧ w1 = wx)
  case first =>
    go_wp2_with fail
    · rename_i hl
      go_meet
      exact ⟨s.extract 0 100, rfl, by rw [ByteArray.size_extract]; omega, rfl⟩
    · rename_i hl
      go_meet
      exact ⟨s, rfl, by omega, rfl⟩
  case rest =>
    obtain ⟨t, rfl, hts, rfl⟩ := hcut
    have B1 := (Blk.new w 33 #[.int .u64 k0, .int .u64 k1, .int .u64 m]).below hb1 (by simp)
    have hW : Below w.heap.size w w1 := Below.trans ((Below.refl _ _).alloc (Nat.le_refl _) _) (hb1.mono (by simp))
    have c0 : w1.cell? ⟨w.heap.size, 0, none⟩ = some (.int .u64 k0) := B1.cell 0
    have c1 : w1.cell? ⟨w.heap.size, 1, none⟩ = some (.int .u64 k1) := B1.cell 1
    clear hb1
    go_wp2_with fail
    refine (refSum_any k0 k1 t _ h0 h1 hts).mono ?_
    rintro e w2 ⟨rfl, hb2⟩
    have B2 := B1.below hb2 B1.lt
    have hW2 := hW.trans (hb2.mono hW.size)
    clear B1 hW c0 c1 hb2
    go_wp2_with fail
    refine (of_yes b off cap l _ HL.out (fun j hj => (hW2.cell (p := ⟨b, off + j, none⟩) hb).trans (HC.out j hj)) (Nat.lt_of_lt_of_le hb hW2.size)).mono ?_
    rintro e w3 ⟨rfl, hb3⟩
    have B3 := B2.below hb3 B2.lt
    have hW3 := hW2.trans (hb3.mono hW2.size)
    clear B2 hW2 hb3
    go_wp2_with fail
    have HS : ∃ g8 : Nat, g8 = w3.heap.size ∧ (w3.alloc (.cells #[.int .u64 (le8 l 0 8), .int .u64 (le8 l 8 8)] 24)).cell? ⟨w.heap.size, 0, none⟩ = some (.int .u64 k0) ∧ (w3.alloc (.cells #[.int .u64 (le8 l 0 8), .int .u64 (le8 l 8 8)] 24)).cell? ⟨w.heap.size, 1, none⟩ = some (.int .u64 k1) ∧ (w3.alloc (.cells #[.int .u64 (le8 l 0 8), .int .u64 (le8 l 8 8)] 24)).cell? ⟨w.heap.size, 2, none⟩ = some (.int .u64 m) ∧ (w3.alloc (.cells #[.int .u64 (le8 l 0 8), .int .u64 (le8 l 8 8)] 24)).cell? ⟨g8, 0, none⟩ = some (.int .u64 (le8 l 0 8)) ∧ (w3.alloc (.cells #[.int .u64 (le8 l 0 8), .int .u64 (le8 l 8 8)] 24)).cell? ⟨g8, 1, none⟩ = some (.int .u64 (le8 l 8 8)) ∧ Below w.heap.size w (w3.alloc (.cells #[.int .u64 (le8 l 0 8), .int .u64 (le8 l 8 8)] 24)) := by
      have hb := (Below.refl w3.heap.size w3).alloc (Nat.le_refl _) (.cells #[.int .u64 (le8 l 0 8), .int .u64 (le8 l 8 8)] 24)
      have hB := Blk.new w3 24 #[.int .u64 (le8 l 0 8), .int .u64 (le8 l 8 8)]
      have B4 := B3.below hb B3.lt
      exact ⟨_, rfl, B4.cell 0, B4.cell 1, B4.cell 2, hB.cell 0, hB.cell 1, hW3.alloc hW3.size _⟩
    obtain ⟨g8, hg8, HS⟩ := HS
    rw [← hg8]
    clear hg8 B3 hW3
    generalize w3.alloc (.cells #[.int .u64 (le8 l 0 8), .int .u64 (le8 l 8 8)] 24) = w4 at *
    have HT := Lib.hid (keepS HS ((Below.refl _ _).drew))
    have HP : Hid (∀ j (hj : j < l.length), w4.cell? ⟨b, off + j, none⟩ = some (.int .u8 (l[j].toNat : Int))) := Lib.hid (fun j hj => (HS.2.2.2.2.2.cell (p := ⟨b, off + j, none⟩) hb).trans (HC.out j hj))
    clear HS
    go_loop [10, 11, 49] (fun x y i => ∃ k : Nat, k ≤ 16 ∧ i = .int .i64 k ∧ x = .int .u64 (sh l 0 (min k 8)) ∧ y = .int .u64 (sh l 8 (k - 8))) (fun _ _ i => 16 - (intOf i).toNat)
    case atStart => exact ⟨0, by omega, rfl, by rw [Nat.zero_min, sh_zero]; rfl, by rw [Nat.zero_sub, sh_zero]; rfl⟩
    case round =>
      obtain ⟨k, hk, rfl, rfl, rfl⟩ := hrel
      rcases (by omega : k < 8 ∨ (8 ≤ k ∧ k < 16) ∨ k = 16) with hlt | ⟨hge, hlt⟩ | rfl
      · have hkl : k < l.length := by rw [HL.out]; omega
        have ck := HP.out k hkl
        have bl := (l[k]'hkl).toNat_lt
        have S1 := Lib.hid (show IntKind.u64.wrap (IntKind.u64.wrap ((sh l 0 (min k 8) : Nat) / 256 : Int) + ((l[k]'hkl).toNat : Int) * 72057594037927936) = (sh l 0 (min (k + 1) 8) : Int) by
          rw [Nat.min_eq_left (by omega), Nat.min_eq_left (by omega)]
          have h := sh_step l 0 k (by omega) (by omega)
          simp only [Nat.zero_add] at h
          exact h)
        have S2 := Lib.hid (show sh l 8 (k - 8) = sh l 8 (k + 1 - 8) by rw [show k - 8 = 0 by omega, show k + 1 - 8 = 0 by omega])
        go_wp2
        refine ⟨⟨k + 1, by omega, by go_num, by rw [S1.out], by rw [S2.out]⟩, by simp [intOf]; omega⟩
      · have hkl : k < l.length := by rw [HL.out]; omega
        have ck := HP.out k hkl
        have bl := (l[k]'hkl).toNat_lt
        have d8 : decide ((k : Int) < 8) = false := by simp; omega
        have S1 := Lib.hid (show IntKind.u64.wrap (IntKind.u64.wrap ((sh l 8 (k - 8) : Nat) / 256 : Int) + ((l[k]'hkl).toNat : Int) * 72057594037927936) = (sh l 8 (k + 1 - 8) : Int) by
          obtain ⟨j, rfl⟩ : ∃ j, k = 8 + j := ⟨k - 8, by omega⟩
          rw [show 8 + j - 8 = j by omega, show 8 + j + 1 - 8 = j + 1 by omega]
          exact sh_step l 8 j (by omega) hkl)
        have S2 := Lib.hid (show sh l 0 (min k 8) = sh l 0 (min (k + 1) 8) by rw [Nat.min_eq_right (by omega), Nat.min_eq_right (by omega)])
        go_wp2
        refine ⟨⟨k + 1, by omega, by go_num, by rw [S2.out], by rw [S1.out]⟩, by simp [intOf]; omega⟩
      · rw [show min 16 8 = 8 from rfl, show 16 - 8 = 8 from rfl, sh_eight, sh_eight]
        clear HP HC HL
        have e1 : (an (sipZ k0 k1 t.data.toList) m == bits .and .u64 (sipZ k0 k1 t.data.toList) m) = true := by rw [beq_iff_eq]; rfl
        have e2 : (an (sipZ k0 k1 t.data.toList) 18446744073709551615 == sipZ k0 k1 t.data.toList) = true := by rw [beq_iff_eq]; exact an_full _ (sipZ_lt _ _ _)
        go_wp2_with fail
        go_region_held3 (fun w' => w'.cell? ⟨w.heap.size, 0, none⟩ = some (.int .u64 k0) ∧ w'.cell? ⟨w.heap.size, 1, none⟩ = some (.int .u64 k1) ∧ w'.cell? ⟨w.heap.size, 2, none⟩ = some (.int .u64 m) ∧ w'.cell? ⟨g8, 0, none⟩ = some (.int .u64 (le8 l 0 8)) ∧ w'.cell? ⟨g8, 1, none⟩ = some (.int .u64 (le8 l 8 8)) ∧ Below w.heap.size w w')
          (first | exact HT.out | exact keepS HT.out hb2 | exact keepS (by assumption) hb2)
          (first | (go_at_call 15; refine (hash_any k0 k1 _ t _ h0 h1 hts).mono ?_; rintro e w5 ⟨rfl, hb2⟩) | (go_at_call 16; refine (full_any k0 k1 _).mono ?_; rintro e w5 ⟨rfl, hb2⟩))
        have hW2 := (by assumption : w5.cell? ⟨w.heap.size, 0, none⟩ = some (.int .u64 k0) ∧ w5.cell? ⟨w.heap.size, 1, none⟩ = some (.int .u64 k1) ∧ w5.cell? ⟨w.heap.size, 2, none⟩ = some (.int .u64 m) ∧ w5.cell? ⟨g8, 0, none⟩ = some (.int .u64 (le8 l 0 8)) ∧ w5.cell? ⟨g8, 1, none⟩ = some (.int .u64 (le8 l 8 8)) ∧ Below w.heap.size w w5).2.2.2.2.2
        go_wp2
        go_ret
        exact ⟨rfl, hW2⟩

theorem walk (a0 b0 c0 : Int) (a1 : ByteArray) (a2 : Option Addr) (len2 cap2 : Nat) (z2 : List Int) (w : World) (w0 : (Lit.int .u64 a0).wf = true) (u0 : (Lit.int .u64 b0).wf = true) (t0 : (Lit.int .u64 c0).wf = true) (w1 : a1.size ≤ maxLen) (w2 : IsRow .u8 w a2 len2 cap2 z2) :
    Calls Try.prog 5 #[.agg #[.int .u64 a0, .int .u64 b0, .int .u64 c0], .string a1, .slice a2 len2 cap2] w fun e w' => e = .returned (.bool true) ∧ Below w.heap.size w w' := by
  by_cases h16 : len2 = 16
  · subst h16
    rcases w2 with ⟨_, h, _⟩ | ⟨x, rfl, hl, hm, hz, hcell, hwz⟩
    · omega
    · obtain ⟨b, off, spot⟩ := x
      have hc := hcell 0 (by omega)
      have hspot : spot = none := by simpa [Addr.add] using World.cell?_spot hc
      subst hspot
      have hbl := World.block_lt_of_cell? w _ hc
      rw [addr_add] at hbl
      refine walk_yes a0 b0 c0 a1 b off cap2 ((z2.take 16).map fun n => UInt8.ofNat n.toNat) w (u64b w0) (u64b u0) (u64b t0) w1 (by simp; omega) (fun j hj => ?_) hbl
      have hj2 : j < 16 := by simp at hj; omega
      have h1 := hcell j (by omega)
      rw [addr_add] at h1
      rw [h1]
      have hjz : j < z2.length := by omega
      have hw := bounds_u8 (hwz (z2[j]'hjz) (List.getElem_mem hjz))
      simp only [List.getElem_map, List.getElem_take, List.getD_eq_getElem?_getD, List.getElem?_eq_getElem hjz, Option.getD_some]
      rw [UInt8.toNat_ofNat']
      congr 2
      omega
  · have hn : len2 ≤ maxLen := by
      rcases w2 with ⟨_, h, _⟩ | ⟨x, _, hl, hm, _⟩ <;> omega
    exact walk_no a0 b0 c0 a1 a2 len2 cap2 w (u64b w0) (u64b u0) (u64b t0) w1 hn h16

/-! ### THE ROW's STEP -/
set_option maxRecDepth 100000 in
theorem lifted (os : Os) (started : os.Started) (H : Type) (enc : TypeId × Value → H) :
    ReturnsInHanded {} Try.checked os 5 .any (Rows.sipHashesSpec.pre6 enc Try.prog Try.f5 Rows.sipHashesRow.domain false) (Rows.sipHashesSpec.post enc Try.prog Try.f5 false true false false) := by
  refine returnsInHanded_of_change (C := Try.checked) own started (by kernel_rfl) Try.func5
    (ChangeSpec.witness6 (enc := enc) (C := Try.checked) false ⟨#[], #[.agg #[.int .u64 0, .int .u64 0, .int .u64 0], .string ByteArray.empty, .slice none 0 0], []⟩ 8 (by kernel_rfl) (by kernel_rfl) (by kernel_rfl) (by kernel_rfl)) ?_
  intro W base args ds gs before hval0 hW hcnd _
  have hval : ∀ (j : Nat) t v, Try.f5.params[j]? = some t → args[j]? = some v → Value.okWide Try.prog W .any base t v := hval0
  have hW' := hW
  obtain ⟨p, q, hA0, hV, rfl, hfz, hnd⟩ := hW
  have hA : DataW.TrodAll enc Try.prog W 0 (fun _ => true) true Try.f5.params.toList args.toList ds p := hA0
  rw [Try.params5] at hA hval
  obtain ⟨v0, vs0, d0, ds0, p0, q0, hargs, rfl, rfl, h0, r0⟩ := trodAll_cons hA
  obtain ⟨v1, vs1, d1, ds1, p1, q1, rfl, rfl, rfl, h1, r1⟩ := trodAll_cons r0
  obtain ⟨v2, vs2, d2, ds2, p2, q2, rfl, rfl, rfl, h2, r2⟩ := trodAll_cons r1
  obtain ⟨rfl, rfl, rfl⟩ := trodAll_nil r2
  obtain rfl : args = #[v0, v1, v2] := by cases args; simp_all
  obtain ⟨rfl, rfl⟩ := trodVars_none hV
  have k0 := h0
  have lt0 : ∀ x ∈ p0, x.block < W.heap.size := by obtain ⟨m, hm⟩ := k0; exact DataW.trod_lt m _ _ _ hm
  obtain ⟨cs0, rfl, hsz0⟩ := okWide_struct Try.underlying33 (hval 0 33 v0 rfl rfl)
  obtain ⟨x0, y0, z0, rfl⟩ := array3 (hsz0.trans cells33)
  obtain ⟨fu0, hf0⟩ := h0
  obtain ⟨s0, s1, n0, hx0, _, g0, g1⟩ := trod_struct2 Try.underlying33 hf0
  simp [Value.cells, cells24, cells22] at g0 g1
  obtain ⟨s2, s3, n1, hx1, _, g2, g3⟩ := trod_struct2 Try.underlying24 g0
  simp [cells22] at g2 g3
  obtain ⟨a0, e0, _, w0⟩ := DataW.trod_int Try.underlying22 g2
  obtain ⟨b0, e1, _, u0⟩ := DataW.trod_int Try.underlying22 g3
  obtain ⟨c0, e2, _, t0⟩ := DataW.trod_int Try.underlying22 g1
  simp at e0 e1 e2
  subst e0 e1 e2
  have k1 := h1
  have lt1 : ∀ x ∈ p1, x.block < W.heap.size := by obtain ⟨m, hm⟩ := k1; exact DataW.trod_lt m _ _ _ hm
  obtain ⟨a1, rfl, rfl, rfl, w1⟩ := open_string Try.underlying9 (hval 1 9 v1 rfl rfl) h1
  obtain ⟨a2, len2, cap2, rfl⟩ := okWide_slice Try.underlying30 (hval 2 30 v2 rfl rfl)
  have k2 := h2
  have lt2 : ∀ x ∈ p2, x.block < W.heap.size := by obtain ⟨m, hm⟩ := k2; exact DataW.trod_lt m _ _ _ hm
  obtain ⟨z2, w2⟩ : ∃ zs, IsRow .u8 W a2 len2 cap2 zs := by
    obtain ⟨fuel, hf⟩ := h2
    rcases open_ints Try.underlying30 Try.underlying5 (by kernel_rfl) hf with ⟨hcs, _⟩ | ⟨x, l, c, zs, hcs, _, hl, hm, hz, _, hcell, hwz⟩
    · simp [Value.cells] at hcs
      obtain ⟨rfl, rfl, rfl⟩ := hcs
      exact ⟨[], .inl ⟨rfl, rfl, rfl, rfl⟩⟩
    · simp [Value.cells] at hcs
      obtain ⟨rfl, rfl, rfl⟩ := hcs
      exact ⟨zs, .inr ⟨_, rfl, hl, hm, by simpa using hz, hcell, hwz⟩⟩
  clear hA0 hval0
  refine (walk a0 b0 c0 a1 a2 len2 cap2 z2 W w0 u0 t0 w1 w2).mono fun e W' ⟨he, bel⟩ => ?_
  subst he
  exact ⟨_, rfl, _, _, _, [], _, [], hW', trodAll_mk1 (shut_bool Try.underlying4 _), (trodAll_cons_mk (Below.trod laidOut (by kernel_rfl) (of_decide_eq_true (by kernel_rfl)) k0 bel lt0) (trodAll_cons_mk (Below.trod laidOut (by kernel_rfl) (of_decide_eq_true (by kernel_rfl)) k1 bel lt1) (trodAll_cons_mk (Below.trod laidOut (by kernel_rfl) (of_decide_eq_true (by kernel_rfl)) k2 bel lt2) trodAll_mk0))), rfl, bel.frame _, fun h => by cases h⟩

theorem over : Rows.sipHashesRow.holds Try.pinned (OpenSpec.ofChange Rows.sipHashesSpec) :=
  OpenClaim.holds_of_wide 5 Try.f5 rfl rfl rfl rfl rfl rfl rfl ⟨rfl, rfl, rfl, rfl, rfl⟩ rfl rfl rfl rfl rfl (by kernel_rfl) Try.func5 (by kernel_rfl)
    (of_decide_eq_true (by kernel_rfl)) (by unfold Func.isWrapper; first | (rw [if_pos (by decide +kernel)]; kernel_rfl) | (rw [if_neg (by decide +kernel)]; exact ⟨rfl, rfl⟩))
    (fun os started H enc _ => lifted os started H enc)

theorem proved : Rows.SipHashesSaid := over
#print axioms proved
end Go.Proofs.Ytehkmgmmelnceaa.sipHashes
