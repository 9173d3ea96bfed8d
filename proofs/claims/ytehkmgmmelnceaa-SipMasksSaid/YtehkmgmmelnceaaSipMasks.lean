/- SipMasks: for every key, two masks and string the law returns true: what two masks take is as the bits say. Conditions: none beyond the given statement. -/
import Derived.Test.YtehkmgmmelnceaaRows
import Derived.WalkKit
import Derived.ProofKit
import Derived.OpenShut
import Derived.ShutString
import Derived.ChangeOld
import Derived.Below
import Derived.Carry
import Derived.Lib.SmallJoins
import Derived.Deep.RegionHeld3
import Derived.RegionTactic
import Derived.Deep.DeepCutAuto
import Derived.Test.YtehkmgmmelnceaaSe
namespace Go.Proofs.Ytehkmgmmelnceaa.sipMasks
open Go.ChangeShapes Go.WideShapes Go.ChangeAt Go.RowKit Go.Joins
open Go.ChangeMaps (open_string shut_string)
set_option linter.unusedVariables false
set_option linter.unusedSimpArgs false

theorem own : ownKnob Try.prog.godebug = none := by kernel_rfl
theorem laidOut : laidOutB Try.prog = true := by kernel_rfl
theorem cells24 : Try.prog.cellsOf 24 = 2 := by kernel_rfl

theorem u64b {n : Int} (h : (Lit.int .u64 n).wf = true) : 0 ≤ n ∧ n < 18446744073709551616 := by have := bounds_u64 h; omega
theorem bv64 (a : Nat) (ha : a < 18446744073709551616) : (BitVec.ofInt 64 (a : Int)).toNat = a := by
  rw [BitVec.ofInt_natCast, BitVec.toNat_ofNat]; exact Nat.mod_eq_of_lt (by omega)
theorem andNot_self (z a : Nat) (hz : z < 18446744073709551616) (ha : a < 18446744073709551616) : bits .andNot .u64 ((z &&& a : Nat) : Int) (a : Int) = 0 := by
  have hza : z &&& a < 18446744073709551616 := Nat.lt_of_le_of_lt Nat.and_le_right ha
  show IntKind.u64.wrap ((BitVec.ofInt 64 ((z &&& a : Nat) : Int) &&& ~~~ BitVec.ofInt 64 (a : Int)).toNat : Int) = 0
  have e : BitVec.ofInt 64 ((z &&& a : Nat) : Int) &&& ~~~ BitVec.ofInt 64 (a : Int) = 0#64 := by
    have e1 : BitVec.ofInt 64 ((z &&& a : Nat) : Int) = BitVec.ofInt 64 (z : Int) &&& BitVec.ofInt 64 (a : Int) := by
      apply BitVec.eq_of_toNat_eq
      rw [BitVec.toNat_and, bv64 _ hza, bv64 _ hz, bv64 _ ha]
    rw [e1, BitVec.and_assoc, BitVec.and_not_self]; exact BitVec.and_zero
  rw [e]; rfl
theorem masks (Z a b : Int) (hZ : 0 ≤ Z ∧ Z < 18446744073709551616) (ha : 0 ≤ a ∧ a < 18446744073709551616) (hb : 0 ≤ b ∧ b < 18446744073709551616) :
    (an Z (bits .and .u64 a b) == bits .and .u64 (an Z a) (an Z b)) = true ∧ (an Z 0 == 0) = true ∧ (bits .andNot .u64 (an Z a) a == 0) = true ∧ (bits .or .u64 (an Z a) (an Z b) == an Z (bits .or .u64 a b)) = true := by
  obtain ⟨z, rfl⟩ := Int.eq_ofNat_of_zero_le hZ.1
  obtain ⟨x, rfl⟩ := Int.eq_ofNat_of_zero_le ha.1
  obtain ⟨y, rfl⟩ := Int.eq_ofNat_of_zero_le hb.1
  have hz : z < 18446744073709551616 := by omega
  have hx : x < 18446744073709551616 := by omega
  have hy : y < 18446744073709551616 := by omega
  have l1 : z &&& x < 18446744073709551616 := Nat.lt_of_le_of_lt Nat.and_le_left hz
  have l2 : z &&& y < 18446744073709551616 := Nat.lt_of_le_of_lt Nat.and_le_left hz
  have l3 : x &&& y < 18446744073709551616 := Nat.lt_of_le_of_lt Nat.and_le_left hx
  have l4 : x ||| y < 18446744073709551616 := Nat.or_lt_two_pow (n := 64) hx hy
  unfold an
  refine ⟨?_, ?_, ?_, ?_⟩
  · rw [bits_and_u64_nat z x hz hx, bits_and_u64_nat z y hz hy, bits_and_u64_nat x y hx hy, bits_and_u64_nat z (x &&& y) hz l3, bits_and_u64_nat _ _ l1 l2, beq_iff_eq]
    congr 1
    rw [Nat.and_assoc, Nat.and_comm x (z &&& y), Nat.and_assoc, ← Nat.and_assoc z z, Nat.and_self, Nat.and_comm x y]
  · have := bits_and_u64_nat z 0 hz (by decide)
    rw [Nat.and_zero] at this
    rw [beq_iff_eq]; exact this
  · rw [bits_and_u64_nat z x hz hx, beq_iff_eq]; exact andNot_self z x hz hx
  · rw [bits_and_u64_nat z x hz hx, bits_and_u64_nat z y hz hy, bits_or_u64_nat x y hx hy, bits_or_u64_nat _ _ l1 l2, bits_and_u64_nat z (x ||| y) hz l4, beq_iff_eq, Nat.and_or_distrib_left]

theorem keepc {W W' : World} {p : Addr} {u : Value} (h : W.cell? p = some u) (hb : Below W.heap.size W W') : W'.cell? p = some u := (hb.cell (World.block_lt_of_cell? W p h)).trans h
theorem keepS {w W W' : World} {g1 g2 g3 g4 : Nat} {k0 k1 a b : Int} (h : W.cell? ⟨w.heap.size, 0, none⟩ = some (.int .u64 k0) ∧ W.cell? ⟨w.heap.size, 1, none⟩ = some (.int .u64 k1) ∧ W.cell? ⟨g1, 0, none⟩ = some (.int .u64 k0) ∧ W.cell? ⟨g1, 1, none⟩ = some (.int .u64 k1) ∧ W.cell? ⟨g1, 2, none⟩ = some (.int .u64 a) ∧ W.cell? ⟨g2, 0, none⟩ = some (.int .u64 k0) ∧ W.cell? ⟨g2, 1, none⟩ = some (.int .u64 k1) ∧ W.cell? ⟨g2, 2, none⟩ = some (.int .u64 b) ∧ W.cell? ⟨g3, 0, none⟩ = some (.int .u64 k0) ∧ W.cell? ⟨g3, 1, none⟩ = some (.int .u64 k1) ∧ W.cell? ⟨g3, 2, none⟩ = some (.int .u64 (bits .and .u64 a b)) ∧ W.cell? ⟨g4, 0, none⟩ = some (.int .u64 k0) ∧ W.cell? ⟨g4, 1, none⟩ = some (.int .u64 k1) ∧ W.cell? ⟨g4, 2, none⟩ = some (.int .u64 0) ∧ Below w.heap.size w W) (hb : Below W.heap.size W W') : W'.cell? ⟨w.heap.size, 0, none⟩ = some (.int .u64 k0) ∧ W'.cell? ⟨w.heap.size, 1, none⟩ = some (.int .u64 k1) ∧ W'.cell? ⟨g1, 0, none⟩ = some (.int .u64 k0) ∧ W'.cell? ⟨g1, 1, none⟩ = some (.int .u64 k1) ∧ W'.cell? ⟨g1, 2, none⟩ = some (.int .u64 a) ∧ W'.cell? ⟨g2, 0, none⟩ = some (.int .u64 k0) ∧ W'.cell? ⟨g2, 1, none⟩ = some (.int .u64 k1) ∧ W'.cell? ⟨g2, 2, none⟩ = some (.int .u64 b) ∧ W'.cell? ⟨g3, 0, none⟩ = some (.int .u64 k0) ∧ W'.cell? ⟨g3, 1, none⟩ = some (.int .u64 k1) ∧ W'.cell? ⟨g3, 2, none⟩ = some (.int .u64 (bits .and .u64 a b)) ∧ W'.cell? ⟨g4, 0, none⟩ = some (.int .u64 k0) ∧ W'.cell? ⟨g4, 1, none⟩ = some (.int .u64 k1) ∧ W'.cell? ⟨g4, 2, none⟩ = some (.int .u64 0) ∧ Below w.heap.size w W' := by
  obtain ⟨x0, x1, x2, x3, x4, x5, x6, x7, x8, x9, x10, x11, x12, x13, hW⟩ := h
  exact ⟨keepc x0 hb, keepc x1 hb, keepc x2 hb, keepc x3 hb, keepc x4 hb, keepc x5 hb, keepc x6 hb, keepc x7 hb, keepc x8 hb, keepc x9 hb, keepc x10 hb, keepc x11 hb, keepc x12 hb, keepc x13 hb, hW.trans (hb.mono hW.size)⟩

set_option maxRecDepth 100000 in
set_option maxHeartbeats 2000000 in
theorem walk' (k0 k1 a b : Int) (s : ByteArray) (w : World) (h0 : 0 ≤ k0 ∧ k0 < 18446744073709551616) (h1 : 0 ≤ k1 ∧ k1 < 18446744073709551616) (ha : 0 ≤ a ∧ a < 18446744073709551616) (hb : 0 ≤ b ∧ b < 18446744073709551616) (hs : s.size ≤ maxLen) :
    Calls Try.prog 6 #[.agg #[.int .u64 k0, .int .u64 k1], .int .u64 a, .int .u64 b, .string s] w fun e w' => e = .returned (.bool true) ∧ Below w.heap.size w w' := by
  unfold maxLen at hs
  go_enter Try.func6, Try.ntmps6
  go_upto_region 3 with (go_at_call 11; refine (awake1 _).mono ?_; rintro e w1 ⟨rfl, hb1⟩)
  go_cut [3] (fun p3 wx => ∃ t : ByteArray, p3 = .string t ∧ t.size ≤ 1000 ∧ w1 = wx)
  case first =>
    go_wp2_with fail
    · rename_i hl
      go_meet
      exact ⟨s.extract 0 60, rfl, by rw [ByteArray.size_extract]; omega, rfl⟩
    · rename_i hl
      go_meet
      exact ⟨s, rfl, by omega, rfl⟩
  case rest =>
    obtain ⟨t, rfl, hts, rfl⟩ := hcut
    go_wp2_with fail
    have B1 := (Blk.new w 24 #[.int .u64 k0, .int .u64 k1]).below hb1 (by simp)
    have hW : Below w.heap.size w w1 := Below.trans ((Below.refl _ _).alloc (Nat.le_refl _) _) (hb1.mono (by simp))
    have c0 : w1.cell? ⟨w.heap.size, 0, none⟩ = some (.int .u64 k0) := B1.cell 0
    have c1 : w1.cell? ⟨w.heap.size, 1, none⟩ = some (.int .u64 k1) := B1.cell 1
    have hlt := B1.lt
    clear B1 hb1
    go_cut [9, 10, 11] (fun p9 p10 p11 wx => ∃ g1 g2 g3 : Nat, p9 = .pointer (some ⟨g1, 0, none⟩) ∧ p10 = .pointer (some ⟨g2, 0, none⟩) ∧ p11 = .pointer (some ⟨g3, 0, none⟩) ∧ wx.cell? ⟨w.heap.size, 0, none⟩ = some (.int .u64 k0) ∧ wx.cell? ⟨w.heap.size, 1, none⟩ = some (.int .u64 k1) ∧ wx.cell? ⟨g1, 0, none⟩ = some (.int .u64 k0) ∧ wx.cell? ⟨g1, 1, none⟩ = some (.int .u64 k1) ∧ wx.cell? ⟨g1, 2, none⟩ = some (.int .u64 a) ∧ wx.cell? ⟨g2, 0, none⟩ = some (.int .u64 k0) ∧ wx.cell? ⟨g2, 1, none⟩ = some (.int .u64 k1) ∧ wx.cell? ⟨g2, 2, none⟩ = some (.int .u64 b) ∧ wx.cell? ⟨g3, 0, none⟩ = some (.int .u64 k0) ∧ wx.cell? ⟨g3, 1, none⟩ = some (.int .u64 k1) ∧ wx.cell? ⟨g3, 2, none⟩ = some (.int .u64 (bits .and .u64 a b)) ∧ Below w.heap.size w wx)
    case first =>
      have n1 : w1.heap.size ≠ w.heap.size := by omega
      have n2 : w1.heap.size + 1 ≠ w.heap.size := by omega
      have n3 : w1.heap.size + 1 + 1 ≠ w.heap.size := by omega
      have n4 : w1.heap.size + 2 ≠ w.heap.size := by omega
      have l0 : w.heap.size < w1.heap.size := hlt
      have l1 : w.heap.size < w1.heap.size + 1 := by omega
      have l2 : w.heap.size < w1.heap.size + 1 + 1 := by omega
      have l3 : w.heap.size < w1.heap.size + 2 := by omega
      go_region_held3 (fun w' => w'.cell? ⟨w.heap.size, 0, none⟩ = some (.int .u64 k0) ∧ w'.cell? ⟨w.heap.size, 1, none⟩ = some (.int .u64 k1))
        (first | exact ⟨c0, c1⟩ | (simp only [World.cell?_drew, World.size_alloc, World.size_setCell, World.cell?_alloc_past, World.cell?_setCell_far, l0, l1, l2, l3, n1, n2, n3, n4, c0, c1, ne_eq, not_false_eq_true, and_self]; done) | (simp [*, World.cell?_alloc_past, World.cell?_setCell_far]; done))
        (fail)
      all_goals
        go_wp2_with fail
        go_meet
        exact ⟨_, _, _, rfl, rfl, rfl, by simp [go_sem, World.cell?_alloc_past, l0, l1, l2, l3, c0, c1], by simp [go_sem, World.cell?_alloc_past, l0, l1, l2, l3, c0, c1], by simp [go_sem, World.cell?_alloc_past, l0, l1, l2, l3, c0, c1], by simp [go_sem, World.cell?_alloc_past, l0, l1, l2, l3, c0, c1], by simp [go_sem, World.cell?_alloc_past, l0, l1, l2, l3, c0, c1], by simp [go_sem, World.cell?_alloc_past, l0, l1, l2, l3, c0, c1], by simp [go_sem, World.cell?_alloc_past, l0, l1, l2, l3, c0, c1], by simp [go_sem, World.cell?_alloc_past, l0, l1, l2, l3, c0, c1], by simp [go_sem, World.cell?_alloc_past, l0, l1, l2, l3, c0, c1], by simp [go_sem, World.cell?_alloc_past, l0, l1, l2, l3, c0, c1], by simp [go_sem, World.cell?_alloc_past, l0, l1, l2, l3, c0, c1], (((hW.alloc hW.size _).alloc (by simp; omega) _).alloc (by simp; omega) _).drew⟩
    case rest =>
      clear c0 c1 hW hlt
      obtain ⟨g1, g2, g3, rfl, rfl, rfl, c0, c1, x0, x1, x2, y0, y1, y2, z0, z1, z2, hW⟩ := hcut
      go_wp2_with fail
      have HS : ∃ g4 : Nat, g4 = wc.heap.size ∧ (wc.alloc (.cells #[.int .u64 k0, .int .u64 k1, .int .u64 0] 33)).cell? ⟨w.heap.size, 0, none⟩ = some (.int .u64 k0) ∧ (wc.alloc (.cells #[.int .u64 k0, .int .u64 k1, .int .u64 0] 33)).cell? ⟨w.heap.size, 1, none⟩ = some (.int .u64 k1) ∧ (wc.alloc (.cells #[.int .u64 k0, .int .u64 k1, .int .u64 0] 33)).cell? ⟨g1, 0, none⟩ = some (.int .u64 k0) ∧ (wc.alloc (.cells #[.int .u64 k0, .int .u64 k1, .int .u64 0] 33)).cell? ⟨g1, 1, none⟩ = some (.int .u64 k1) ∧ (wc.alloc (.cells #[.int .u64 k0, .int .u64 k1, .int .u64 0] 33)).cell? ⟨g1, 2, none⟩ = some (.int .u64 a) ∧ (wc.alloc (.cells #[.int .u64 k0, .int .u64 k1, .int .u64 0] 33)).cell? ⟨g2, 0, none⟩ = some (.int .u64 k0) ∧ (wc.alloc (.cells #[.int .u64 k0, .int .u64 k1, .int .u64 0] 33)).cell? ⟨g2, 1, none⟩ = some (.int .u64 k1) ∧ (wc.alloc (.cells #[.int .u64 k0, .int .u64 k1, .int .u64 0] 33)).cell? ⟨g2, 2, none⟩ = some (.int .u64 b) ∧ (wc.alloc (.cells #[.int .u64 k0, .int .u64 k1, .int .u64 0] 33)).cell? ⟨g3, 0, none⟩ = some (.int .u64 k0) ∧ (wc.alloc (.cells #[.int .u64 k0, .int .u64 k1, .int .u64 0] 33)).cell? ⟨g3, 1, none⟩ = some (.int .u64 k1) ∧ (wc.alloc (.cells #[.int .u64 k0, .int .u64 k1, .int .u64 0] 33)).cell? ⟨g3, 2, none⟩ = some (.int .u64 (bits .and .u64 a b)) ∧ (wc.alloc (.cells #[.int .u64 k0, .int .u64 k1, .int .u64 0] 33)).cell? ⟨g4, 0, none⟩ = some (.int .u64 k0) ∧ (wc.alloc (.cells #[.int .u64 k0, .int .u64 k1, .int .u64 0] 33)).cell? ⟨g4, 1, none⟩ = some (.int .u64 k1) ∧ (wc.alloc (.cells #[.int .u64 k0, .int .u64 k1, .int .u64 0] 33)).cell? ⟨g4, 2, none⟩ = some (.int .u64 0) ∧ Below w.heap.size w (wc.alloc (.cells #[.int .u64 k0, .int .u64 k1, .int .u64 0] 33)) := by
        have hb := (Below.refl wc.heap.size wc).alloc (Nat.le_refl _) (.cells #[.int .u64 k0, .int .u64 k1, .int .u64 0] 33)
        have hB := Blk.new wc 33 #[.int .u64 k0, .int .u64 k1, .int .u64 0]
        exact ⟨_, rfl, keepc c0 hb, keepc c1 hb, keepc x0 hb, keepc x1 hb, keepc x2 hb, keepc y0 hb, keepc y1 hb, keepc y2 hb, keepc z0 hb, keepc z1 hb, keepc z2 hb, hB.cell 0, hB.cell 1, hB.cell 2, hW.alloc hW.size _⟩
      obtain ⟨g4, hg4, HS⟩ := HS
      rw [← hg4]
      clear hg4 c0 c1 x0 x1 x2 y0 y1 y2 z0 z1 z2 hW
      generalize wc.alloc (.cells #[.int .u64 k0, .int .u64 k1, .int .u64 0] 33) = wd at *
      obtain ⟨e1, e2, e3, e4⟩ := masks (sipZ k0 k1 t.data.toList) a b (sipZ_lt _ _ _) ha hb
      have HT := Lib.hid (keepS HS ((Below.refl _ _).drew))
      clear HS
      go_region_held3 (fun w' => w'.cell? ⟨w.heap.size, 0, none⟩ = some (.int .u64 k0) ∧ w'.cell? ⟨w.heap.size, 1, none⟩ = some (.int .u64 k1) ∧ w'.cell? ⟨g1, 0, none⟩ = some (.int .u64 k0) ∧ w'.cell? ⟨g1, 1, none⟩ = some (.int .u64 k1) ∧ w'.cell? ⟨g1, 2, none⟩ = some (.int .u64 a) ∧ w'.cell? ⟨g2, 0, none⟩ = some (.int .u64 k0) ∧ w'.cell? ⟨g2, 1, none⟩ = some (.int .u64 k1) ∧ w'.cell? ⟨g2, 2, none⟩ = some (.int .u64 b) ∧ w'.cell? ⟨g3, 0, none⟩ = some (.int .u64 k0) ∧ w'.cell? ⟨g3, 1, none⟩ = some (.int .u64 k1) ∧ w'.cell? ⟨g3, 2, none⟩ = some (.int .u64 (bits .and .u64 a b)) ∧ w'.cell? ⟨g4, 0, none⟩ = some (.int .u64 k0) ∧ w'.cell? ⟨g4, 1, none⟩ = some (.int .u64 k1) ∧ w'.cell? ⟨g4, 2, none⟩ = some (.int .u64 0) ∧ Below w.heap.size w w')
        (first | exact HT.out | exact keepS HT.out hb2 | exact keepS (by assumption) hb2)
        (first | (go_at_call 15; refine (hash_any k0 k1 _ t _ h0 h1 hts).mono ?_; rintro e w2 ⟨rfl, hb2⟩))
      have hW2 := (by assumption : w2.cell? ⟨w.heap.size, 0, none⟩ = some (.int .u64 k0) ∧ w2.cell? ⟨w.heap.size, 1, none⟩ = some (.int .u64 k1) ∧ w2.cell? ⟨g1, 0, none⟩ = some (.int .u64 k0) ∧ w2.cell? ⟨g1, 1, none⟩ = some (.int .u64 k1) ∧ w2.cell? ⟨g1, 2, none⟩ = some (.int .u64 a) ∧ w2.cell? ⟨g2, 0, none⟩ = some (.int .u64 k0) ∧ w2.cell? ⟨g2, 1, none⟩ = some (.int .u64 k1) ∧ w2.cell? ⟨g2, 2, none⟩ = some (.int .u64 b) ∧ w2.cell? ⟨g3, 0, none⟩ = some (.int .u64 k0) ∧ w2.cell? ⟨g3, 1, none⟩ = some (.int .u64 k1) ∧ w2.cell? ⟨g3, 2, none⟩ = some (.int .u64 (bits .and .u64 a b)) ∧ w2.cell? ⟨g4, 0, none⟩ = some (.int .u64 k0) ∧ w2.cell? ⟨g4, 1, none⟩ = some (.int .u64 k1) ∧ w2.cell? ⟨g4, 2, none⟩ = some (.int .u64 0) ∧ Below w.heap.size w w2).2.2.2.2.2.2.2.2.2.2.2.2.2.2
      go_wp2
      go_ret
      exact ⟨rfl, hW2⟩
theorem walk (a0 b0 : Int) (a1 a2 : Int) (a3 : ByteArray) (w : World) (w0 : (Lit.int .u64 a0).wf = true) (u0 : (Lit.int .u64 b0).wf = true) (w1 : (Lit.int .u64 a1).wf = true) (w2 : (Lit.int .u64 a2).wf = true) (w3 : a3.size ≤ maxLen) :
    Calls Try.prog 6 #[.agg #[.int .u64 a0, .int .u64 b0], .int .u64 a1, .int .u64 a2, .string a3] w fun e w' => e = .returned (.bool true) ∧ Below w.heap.size w w' :=
  walk' a0 b0 a1 a2 a3 w (u64b w0) (u64b u0) (u64b w1) (u64b w2) w3

/-! ### THE ROW's STEP -/
set_option maxRecDepth 100000 in
theorem lifted (os : Os) (started : os.Started) (H : Type) (enc : TypeId × Value → H) :
    ReturnsInHanded {} Try.checked os 6 .any (Rows.sipMasksSpec.pre6 enc Try.prog Try.f6 Rows.sipMasksRow.domain false) (Rows.sipMasksSpec.post enc Try.prog Try.f6 false true false false) := by
  refine returnsInHanded_of_change (C := Try.checked) own started (by kernel_rfl) Try.func6
    (ChangeSpec.witness6 (enc := enc) (C := Try.checked) false ⟨#[], #[.agg #[.int .u64 0, .int .u64 0], .int .u64 0, .int .u64 0, .string ByteArray.empty], []⟩ 8 (by kernel_rfl) (by kernel_rfl) (by kernel_rfl) (by kernel_rfl)) ?_
  intro W base args ds gs before hval0 hW hcnd _
  have hval : ∀ (j : Nat) t v, Try.f6.params[j]? = some t → args[j]? = some v → Value.okWide Try.prog W .any base t v := hval0
  have hW' := hW
  obtain ⟨p, q, hA0, hV, rfl, hfz, hnd⟩ := hW
  have hA : DataW.TrodAll enc Try.prog W 0 (fun _ => true) true Try.f6.params.toList args.toList ds p := hA0
  rw [Try.params6] at hA hval
  obtain ⟨v0, vs0, d0, ds0, p0, q0, hargs, rfl, rfl, h0, r0⟩ := trodAll_cons hA
  obtain ⟨v1, vs1, d1, ds1, p1, q1, rfl, rfl, rfl, h1, r1⟩ := trodAll_cons r0
  obtain ⟨v2, vs2, d2, ds2, p2, q2, rfl, rfl, rfl, h2, r2⟩ := trodAll_cons r1
  obtain ⟨v3, vs3, d3, ds3, p3, q3, rfl, rfl, rfl, h3, r3⟩ := trodAll_cons r2
  obtain ⟨rfl, rfl, rfl⟩ := trodAll_nil r3
  obtain rfl : args = #[v0, v1, v2, v3] := by cases args; simp_all
  obtain ⟨rfl, rfl⟩ := trodVars_none hV
  have k0 := h0
  have lt0 : ∀ x ∈ p0, x.block < W.heap.size := by obtain ⟨m, hm⟩ := k0; exact DataW.trod_lt m _ _ _ hm
  obtain ⟨x0, y0, e0, f0, m0, rfl, rfl, rfl, hx0, hy0⟩ := open_agg2 Try.underlying24 (by kernel_rfl) cells24 (hval 0 24 v0 rfl rfl) h0
  obtain ⟨a0, ex0, rfl, w0⟩ := DataW.trod_int Try.underlying22 hx0
  obtain ⟨b0, ey0, rfl, u0⟩ := DataW.trod_int Try.underlying22 hy0
  simp at ex0 ey0
  subst ex0 ey0
  have k1 := h1
  have lt1 : ∀ x ∈ p1, x.block < W.heap.size := by obtain ⟨m, hm⟩ := k1; exact DataW.trod_lt m _ _ _ hm
  obtain ⟨a1, rfl, rfl, rfl, w1⟩ := open_int Try.underlying22 (hval 1 22 v1 rfl rfl) h1
  have k2 := h2
  have lt2 : ∀ x ∈ p2, x.block < W.heap.size := by obtain ⟨m, hm⟩ := k2; exact DataW.trod_lt m _ _ _ hm
  obtain ⟨a2, rfl, rfl, rfl, w2⟩ := open_int Try.underlying22 (hval 2 22 v2 rfl rfl) h2
  have k3 := h3
  have lt3 : ∀ x ∈ p3, x.block < W.heap.size := by obtain ⟨m, hm⟩ := k3; exact DataW.trod_lt m _ _ _ hm
  obtain ⟨a3, rfl, rfl, rfl, w3⟩ := open_string Try.underlying9 (hval 3 9 v3 rfl rfl) h3
  clear hA0 hval0
  refine (walk a0 b0 a1 a2 a3 W w0 u0 w1 w2 w3).mono fun e W' ⟨he, bel⟩ => ?_
  subst he
  exact ⟨_, rfl, _, _, _, [], _, [], hW', trodAll_mk1 (shut_bool Try.underlying4 _), (trodAll_cons_mk (Below.trod laidOut (by kernel_rfl) (of_decide_eq_true (by kernel_rfl)) k0 bel lt0) (trodAll_cons_mk (Below.trod laidOut (by kernel_rfl) (of_decide_eq_true (by kernel_rfl)) k1 bel lt1) (trodAll_cons_mk (Below.trod laidOut (by kernel_rfl) (of_decide_eq_true (by kernel_rfl)) k2 bel lt2) (trodAll_cons_mk (Below.trod laidOut (by kernel_rfl) (of_decide_eq_true (by kernel_rfl)) k3 bel lt3) trodAll_mk0)))), rfl, bel.frame _, fun h => by cases h⟩

theorem over : Rows.sipMasksRow.holds Try.pinned (OpenSpec.ofChange Rows.sipMasksSpec) :=
  OpenClaim.holds_of_wide 6 Try.f6 rfl rfl rfl rfl rfl rfl rfl ⟨rfl, rfl, rfl, rfl, rfl⟩ rfl rfl rfl rfl rfl (by kernel_rfl) Try.func6 (by kernel_rfl)
    (of_decide_eq_true (by kernel_rfl)) (by unfold Func.isWrapper; first | (rw [if_pos (by decide +kernel)]; kernel_rfl) | (rw [if_neg (by decide +kernel)]; exact ⟨rfl, rfl⟩))
    (fun os started H enc _ => lifted os started H enc)

theorem proved : Rows.SipMasksSaid := over
#print axioms proved
end Go.Proofs.Ytehkmgmmelnceaa.sipMasks
