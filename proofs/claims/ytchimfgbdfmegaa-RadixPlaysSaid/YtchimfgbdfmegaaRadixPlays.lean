/- RadixPlays: for every script of putting and dropping and every list of keys the law returns true: each tree has just the shape of the document, and returns the value of each key, there or not. Conditions: none beyond the given statement. -/
import Derived.Test.YtchimfgbdfmegaaRows
import Derived.WalkKit
import Derived.ProofKit
import Derived.OpenShut
import Derived.ShutString
import Derived.ChangeOld
import Derived.Below
import Derived.BigQuiet
import Derived.Deep.RegionHeld3
import Derived.Carry
import Derived.Lib.SmallJoins
import Derived.Test.YtchimfgbdfmegaaHba
namespace Go.Proofs.Ytchimfgbdfmegaa.radixPlays
open Go.ChangeShapes Go.WideShapes Go.ChangeAt Go.RowKit Go.Joins Go.Lib
open Go.ChangeMaps (open_string shut_string)
set_option linter.unusedVariables false
set_option linter.unusedSimpArgs false
set_option linter.unnecessarySimpa false
set_option linter.unnecessarySimpa false
set_option maxRecDepth 100000

theorem own : ownKnob Try.prog.godebug = none := by kernel_rfl
theorem laidOut : laidOutB Try.prog = true := by kernel_rfl
theorem dmod {dd : Nat} (h : dd < 256) : (dd % 4 = 3 → IntKind.u8.wrap (Int.tmod (dd : Int) 4) = 3) ∧ (dd % 4 ≠ 3 → ¬ IntKind.u8.wrap (Int.tmod (dd : Int) 4) = 3) := by
  have e : IntKind.u8.wrap (Int.tmod (dd : Int) 4) = ((dd % 4 : Nat) : Int) := by
    have e1 : Int.tmod (dd : Int) 4 = ((dd % 4 : Nat) : Int) := by rw [Int.tmod_eq_emod_of_nonneg (by omega)]; omega
    rw [e1]
    unfold IntKind.wrap
    simp [IntKind.bits, IntKind.signed]
    omega
  rw [e]
  exact ⟨fun h => by omega, fun h => by omega⟩
theorem field0 (k u : ByteArray) (w : World) : (Instr.field 34 (.agg #[.string k, .string u]) 0).run Try.prog w = .ok (.string k) w := by
  kernel_rfl
theorem bytes_neR {a b : ByteArray} (h : a ≠ b) : (a.toList == b.toList) = false := by
  rw [beq_eq_false_iff_ne]
  intro e
  rw [ByteArray.toList_eq, ByteArray.toList_eq] at e
  exact h (bytes_ext e)
theorem neq_node (a : Nat) (w : World) : (binOp .neq 30 (.pointer (some ⟨a, 0, none⟩)) (.pointer (some ⟨a, 0, none⟩))).run Try.prog w = .ok (.bool false) w := by
  obtain ⟨j, hj, -⟩ := info101
  have h : ∀ d : Nat, (Op.equalIn (d + 1) 30 (.pointer (some ⟨a, 0, none⟩)) (.pointer (some ⟨a, 0, none⟩))).run Try.prog w = .ok true w := fun d => by
    simp [Op.equalIn, run_underlying Try.underlying30, sizeOf, typeInfo, hj, run_sameAddr_same]
  simp only [binOp]
  simp [Op.equal, Op.maxDepth, h 9999]
theorem ins_lenR (p : Pr) : ∀ D : List Pr, (insK p D).length = D.length + 1
  | [] => by simp [insK]
  | q :: r => by
    unfold insK
    split
    · simp
    · simp [ins_lenR p r]
theorem put_lenR (ps : List Pr) (p : Pr) : (putK ps p).length ≤ ps.length + 1 := by
  unfold putK
  rw [ins_lenR]
  have := List.length_filter_le (fun q : Pr => !(q.1.toList == p.1.toList)) ps
  unfold dropK
  omega
theorem _root_.Go.Proofs.Ytchimfgbdfmegaa.OwnR.rdc {base : Nat} {w : World} {v : Value} {xs : List Pr} (h : OwnR base w v xs) : ∃ A c, v = .slice A xs.length c ∧ Rd w A xs ∧ xs.length ≤ c := by
  obtain ⟨A, c, e, hR⟩ := h.rd
  refine ⟨A, c, e, hR, ?_⟩
  rcases h.2 with ⟨h1, h0⟩ | ⟨g, cap, cur, h1, _, _, hc, _⟩
  · omega
  · rw [h1] at e
    simp only [Value.slice.injEq] at e
    omega
def few40 (p : Pr) : Pr := (cut40 p.1, cut40 p.2)
noncomputable def plays25 : Code := (Try.f4.body.bind (fromRegion 25)).getD .skip
set_option maxHeartbeats 8000000 in
theorem plays25_any (post : Ending → World → Prop) (a2 : Option Addr) (len2 cap2 : Nat) (ss : List ByteArray) (w0 w : World) (hS : ArgS w0 a2 len2 cap2 ss) (b : Nat) (ps : List Pr) (A : Option Addr) (c : Nat)
    (hB0 : Below w0.heap.size w0 w) (hR : Rd w A ps) (hpl : ps.length ≤ 60) (hT : PW w b ps) (hpost : ∀ w', Below w0.heap.size w0 w' → post (.returned (.bool true)) w') (x0 x2 x3 x4 x7 x8 x9 x10 x11 x12 x13 x14 x15 x16 x17 x18 x19 x20 x21 x22 x23 x24 x25 x26 x27 x28 x29 x30 x31 x32 x33 x34 x35 x36 x37 x38 x39 x40 x41 x42 x43 x44 x45 x46 x47 x48 x49 x50 x51 x52 x53 x54 x55 x56 x57 x58 x59 x60 x61 x62 x63 x64 x65 x66 x67 x68 x69 x70 x71 x72 x73 x74 x75 x76 x77 x78 x79 x80 x81 x82 x83 x84 x85 x86 x87 x88 x89 x90 x91 x92 x93 x94 x95 x96 x97 x98 x99 x100 x101 x102 x103 x104 x105 x106 x107 x108 x109 x110 x111 x112 x113 x114 x115 x116 x117 x118 x119 x120 x121 x122 x123 x124 x125 x126 x127 x128 x129 x130 x131 x132 x133 x134 x135 x136 x137 x138 x139 x140 x141 x142 x143 x144 x145 x146 x147 x148 x149 x150 x151 x152 x153 x154 x155 x156 x157 x158 x159 x160 x161 x162 x163 x164 x165 : Value) :
    Code.wp Try.prog plays25 (bodyPost Try.prog Try.f4 post) ⟨#[x0, .slice a2 len2 cap2, x2, x3, x4, .pointer (some ⟨b, 0, none⟩), .slice A ps.length c, x7, x8, x9, x10, x11, x12, x13, x14, x15, x16, x17, x18, x19, x20, x21, x22, x23, x24, x25, x26, x27, x28, x29, x30, x31, x32, x33, x34, x35, x36, x37, x38, x39, x40, x41, x42, x43, x44, x45, x46, x47, x48, x49, x50, x51, x52, x53, x54, x55, x56, x57, x58, x59, x60, x61, x62, x63, x64, x65, x66, x67, x68, x69, x70, x71, x72, x73, x74, x75, x76, x77, x78, x79, x80, x81, x82, x83, x84, x85, x86, x87, x88, x89, x90, x91, x92, x93, x94, x95, x96, x97, x98, x99, x100, x101, x102, x103, x104, x105, x106, x107, x108, x109, x110, x111, x112, x113, x114, x115, x116, x117, x118, x119, x120, x121, x122, x123, x124, x125, x126, x127, x128, x129, x130, x131, x132, x133, x134, x135, x136, x137, x138, x139, x140, x141, x142, x143, x144, x145, x146, x147, x148, x149, x150, x151, x152, x153, x154, x155, x156, x157, x158, x159, x160, x161, x162, x163, x164, x165], []⟩ w := by
  have hl2 := hS.len_le
  have HS := Lib.hid hS
  have HP := Lib.hid hpost
  clear hS hpost
  simp only []
  conv => arg 2; whnf
  go_wp2_with fail
  go_loopw [134] (fun vi wr => ∃ j : Nat, j ≤ len2 ∧ vi = .int .i64 j ∧ Rd wr A ps ∧ PW wr b ps ∧ Below w0.heap.size w0 wr) (fun vi wr => len2 - (RowKit.intOf vi).toNat)
  case atStart => exact ⟨0, by omega, rfl, hR, hT, hB0⟩
  case round =>
    clear hR hT hB0
    obtain ⟨j, hj, rfl, hR, hT, hB⟩ := hrel
    by_cases hlt : j < len2
    · obtain ⟨x, s, rfl, c0⟩ := HS.out.at hB j hlt
      have L1 : (j : Int) < (len2 : Int) := by omega
      have L2 : IntKind.i64.wrap ((j : Int) + 1) = ((j + 1 : Nat) : Int) := by rw [IntWalk.i64_in _ (by unfold maxLen at hl2; omega)]; omega
      by_cases h20 : j < 20
      · have G : ¬ ((20 : Int) ≤ (j : Int)) := by omega
        have kf := few_any s ⟨#[]⟩ wr
        have hsz := cut40_size s
        go_wp2_with fail
        refine kf.mono ?_
        rintro e w1 ⟨rfl, hB1⟩
        generalize cut40 s = k at *
        generalize cut40 ⟨#[]⟩ = uu at *
        have hfl := field0 k uu w1
        have hB := hB.trans (hB1.mono hB.size)
        have hR := hR.below hB1
        have hT := hT.below hB1
        clear kf hB1 c0
        have kg := get_list hT k (by omega)
        unfold at0 at kg
        go_wp2_with fail
        refine kg.mono ?_
        rintro e w2 ⟨rfl, hB2⟩
        have hB := hB.trans (hB2.mono hB.size)
        have hR := hR.below hB2
        have hT := hT.below hB2
        clear hB2 kg
        go_wp2_with fail
        refine (refGetR_any A c ps k w2 hR (by omega) (sized_mem fun x hx => Nat.le_trans (hT.keys x hx) (by unfold maxLen; omega)) (by unfold maxLen; omega)).mono ?_
        rintro e w3 ⟨rfl, hB3⟩
        have hB := hB.trans (hB3.mono hB.size)
        have hR := hR.below hB3
        have hT := hT.below hB3
        clear hB3
        generalize getR ps k = gq at *
        cases gq
        all_goals
          simp only [Option.isSome_none, Option.isSome_some, Option.getD_none, Option.getD_some]
          go_wp2_with fail
          exact ⟨⟨j + 1, by omega, by go_num, hR, hT, hB⟩, by simp [RowKit.intOf]; omega⟩
      · have G : (20 : Int) ≤ (j : Int) := by omega
        clear hR hT
        go_wp2_with fail
        exact HP.out _ hB
    · obtain rfl : j = len2 := by omega
      have G : ¬ ((j : Int) < (j : Int)) := by omega
      clear hR hT
      go_wp2_with fail
      exact HP.out _ hB
set_option maxHeartbeats 16000000 in
theorem walk (a1 : Option Addr) (len1 cap1 : Nat) (a2 : Option Addr) (len2 cap2 : Nat) (ss : List ByteArray) (w : World) (hA : ArgA w a1 len1 cap1) (hS : ArgS w a2 len2 cap2 ss) :
    Calls Try.prog 4 #[.slice a1 len1 cap1, .slice a2 len2 cap2] w fun e w' => e = .returned (.bool true) ∧ Below w.heap.size w w' := by
  have hl1 := hA.len_le
  have HA := Lib.hid hA
  have HS := Lib.hid hS
  clear hA hS
  go_enter Try.func4, Try.ntmps4
  go_wp2_with fail
  refine (awakeR_any _).mono ?_
  rintro e w1 ⟨rfl, hB⟩
  go_wp2_with fail
  refine (empty_any w1).mono ?_
  rintro e w2 ⟨b, rfl, hT0, hB2⟩
  have hT := PW.empty hT0
  have hB := hB.trans (hB2.mono hB.size)
  clear hB2 hT0
  try unfold at0
  go_wp2_with fail
  go_loopw [5, 6, 31] (fun v5 v6 vi wr => ∃ (j b : Nat) (ps : List Pr) (A : Option Addr) (c : Nat), j ≤ len1 ∧ j ≤ 60 ∧ vi = .int .i64 j ∧ v5 = .pointer (some ⟨b, 0, none⟩) ∧ v6 = .slice A ps.length c ∧ Rd wr A ps ∧ ps.length ≤ c ∧ ps.length ≤ j ∧ PW wr b ps ∧ Below w.heap.size w wr) (fun v5 v6 vi wr => len1 - (RowKit.intOf vi).toNat)
  case atStart => exact ⟨0, b, [], none, 0, by omega, by omega, rfl, rfl, rfl, fun _ _ h => by simp at h, by simp, by simp, hT, hB⟩
  case round =>
    clear hT hB
    obtain ⟨j, b, ps, A, c, hj, hj60, rfl, rfl, rfl, hR, hcap, hpl, hT, hB⟩ := hrel
    by_cases hlt : j < len1
    · obtain ⟨x, dd, ka, q, rfl, hdd, hka, c0, c1, c2, c3⟩ := HA.out.at hB j hlt
      have L1 : (j : Int) < (len1 : Int) := by omega
      have L2 : IntKind.i64.wrap ((j : Int) + 1) = ((j + 1 : Nat) : Int) := by rw [IntWalk.i64_in _ (by unfold maxLen at hl1; omega)]; omega
      go_upto_region 8 with (fail)
      have hBl := (Below.refl _ wr).alloc (Nat.le_refl _) (.cells #[.int .u8 dd, .string q.1, .string q.2, .int .u8 ka] 36)
      have hAct := Blk.new wr 36 #[.int .u8 dd, .string q.1, .string q.2, .int .u8 ka]
      have hB := hB.trans (hBl.mono hB.size)
      have hR := hR.below hBl
      have hT := hT.below hBl
      clear c0 c1 c2 c3 hBl
      generalize wr.alloc (.cells #[.int .u8 dd, .string q.1, .string q.2, .int .u8 ka] 36) = W1 at *
      generalize wr.heap.size = N10 at *
      by_cases h60 : j < 60
      · have G : ¬ ((60 : Int) ≤ (j : Int)) := by omega
        have a1 : W1.cell? ⟨N10, 1, none⟩ = some (.string q.1) := hAct.cell 1
        have a2 : W1.cell? ⟨N10, 2, none⟩ = some (.string q.2) := hAct.cell 2
        go_wp2_with fail
        refine (few_any q.1 q.2 W1).mono ?_
        rintro e w3 ⟨rfl, hB3⟩
        obtain ⟨p, hp⟩ : ∃ p : Pr, p = (cut40 q.1, cut40 q.2) := ⟨_, rfl⟩
        have e1 : cut40 q.1 = p.1 := by rw [hp]
        have e2 : cut40 q.2 = p.2 := by rw [hp]
        rw [e1, e2]
        have hp1 : p.1.size ≤ 40 := by rw [← e1]; exact cut40_size _
        have hp2 : p.2.size ≤ 40 := by rw [← e2]; exact cut40_size _
        clear hp e1 e2 a1 a2
        go_upto_region 10 with (fail)
        have hBl := hB3.alloc hB3.size (.cells #[.string p.1, .string p.2] 34)
        have hP := Blk.new w3 34 #[.string p.1, .string p.2]
        have hB := hB.trans (hBl.mono hB.size)
        have hR := hR.below hBl
        have hT := hT.below hBl
        have hAct := hAct.stay hBl
        clear hBl hB3
        generalize w3.alloc (.cells #[.string p.1, .string p.2] 34) = W4 at *
        generalize w3.heap.size = N11 at *
        have p0 : W4.cell? ⟨N11, 0, none⟩ = some (.string p.1) := hP.cell 0
        have p1 : W4.cell? ⟨N11, 1, none⟩ = some (.string p.2) := hP.cell 1
        have d0 : W4.cell? ⟨N10, 0, none⟩ = some (.int .u8 dd) := hAct.cell 0

        have kg := refGetR_any A c ps p.1 W4 hR (by omega) (sized_mem fun x hx => Nat.le_trans (hT.keys x hx) (by unfold maxLen; omega)) (by unfold maxLen; omega)
        have kd := fun w' (hT : PW w' b ps) => drop_list hT (.pointer none) p.1 (.inl rfl) hp1
        have kp := fun w' (hT : PW w' b ps) => put_list hT (.pointer none) p.1 p.2 (.inl rfl) hp1 hp2
        have ns := fun w => neq_node b w
        simp only [at0] at kd kp
        by_cases h3 : dd % 4 = 3
        · have D3 := (dmod hdd).1 h3
          clear kp
          cases hg : getR ps p.1 with
          | none =>
            rw [hg] at kg kd
            simp only [Option.isSome_none, Option.getD_none] at kg kd
            go_wp2_with fail
            refine (kg).mono ?_
            rintro e w5 ⟨rfl, hB5⟩
            simp only [Option.isSome_none, Option.isSome_some, Option.getD_none, Option.getD_some]
            try unfold at0
            have hB := hB.trans (hB5.mono hB.size)
            have hT := hT.below hB5
            have hR := hR.below hB5
            have hP := hP.stay hB5
            have hAct := hAct.stay hB5
            clear kg p0 p1 d0 hB5
            have p0 : w5.cell? ⟨N11, 0, none⟩ = some (.string p.1) := hP.cell 0
            have p1 : w5.cell? ⟨N11, 1, none⟩ = some (.string p.2) := hP.cell 1
            have d0 : w5.cell? ⟨N10, 0, none⟩ = some (.int .u8 dd) := hAct.cell 0

            go_wp2_with fail
            refine (kd _ hT).mono ?_
            rintro e wd ⟨bq, rfl, hsame, hT8, hBd⟩
            try unfold at0
            have hB := hB.trans (hBd.mono hB.size)
            have hT := hT.below hBd
            have hR := hR.below hBd
            have hP := hP.stay hBd
            clear p0 p1 d0 hBd
            have p0 : wd.cell? ⟨N11, 0, none⟩ = some (.string p.1) := hP.cell 0
            have p1 : wd.cell? ⟨N11, 1, none⟩ = some (.string p.2) := hP.cell 1
            obtain rfl := hsame (by first | trivial | rfl)
            clear hsame
            clear kd
            go_wp2_with fail
            refine (refDrop_any A c ps p.1 wd hR (by omega)).mono ?_
            rintro e we ⟨v8, rfl, hO8, hBv⟩
            obtain ⟨A8, c8, rfl, hR8, hc8⟩ := hO8.rdc
            clear hO8
            try unfold at0
            have hB := hB.trans (hBv.mono hB.size)
            have hT8 := hT8.below hBv
            have hP := hP.stay hBv
            clear p0 p1 hBv
            have p0 : we.cell? ⟨N11, 0, none⟩ = some (.string p.1) := hP.cell 0
            have p1 : we.cell? ⟨N11, 1, none⟩ = some (.string p.2) := hP.cell 1
            obtain ⟨Q, hQ⟩ : ∃ Q, Q = dropK ps p.1 := ⟨_, rfl⟩
            have hlQ : Q.length ≤ j + 1 := by rw [hQ]; exact Nat.le_trans (List.length_filter_le _ _) (by omega)
            rw [← hQ] at hT8 hR8 hc8 ⊢
            clear hQ hT hR
            go_wp2_with fail
            refine (get_list hT8 p.1 (by omega)).mono ?_
            rintro e wa ⟨rfl, hBa⟩
            try unfold at0
            have hB := hB.trans (hBa.mono hB.size)
            have hT8 := hT8.below hBa
            have hR8 := hR8.below hBa
            have hP := hP.stay hBa
            clear p0 p1 hBa
            have p0 : wa.cell? ⟨N11, 0, none⟩ = some (.string p.1) := hP.cell 0
            have p1 : wa.cell? ⟨N11, 1, none⟩ = some (.string p.2) := hP.cell 1
            go_wp2_with fail
            refine (refGetR_any A8 c8 Q p.1 wa hR8 (by omega) (sized_mem fun x hx => Nat.le_trans (hT8.keys x hx) (by unfold maxLen; omega)) (by unfold maxLen; omega)).mono ?_
            rintro e wb ⟨rfl, hBb⟩
            try unfold at0
            have hB := hB.trans (hBb.mono hB.size)
            have hT8 := hT8.below hBb
            have hR8 := hR8.below hBb
            have hP := hP.stay hBb
            clear p0 p1 hBb
            have p0 : wb.cell? ⟨N11, 0, none⟩ = some (.string p.1) := hP.cell 0
            have p1 : wb.cell? ⟨N11, 1, none⟩ = some (.string p.2) := hP.cell 1
            clear p0 p1 hP
            have kt := tree_list hT8 A8 c8 (by omega) hR8 hc8
            try unfold at0 at kt
            generalize getR Q p.1 = gq at *
            cases gq
            all_goals
              simp only [Option.isSome_none, Option.isSome_some, Option.getD_none, Option.getD_some]
              go_wp2_with fail
              refine kt.mono ?_
              rintro e wt ⟨rfl, hBt⟩
              have hB := hB.trans (hBt.mono hB.size)
              have hT8 := hT8.below hBt
              have hR8 := hR8.below hBt
              clear kt hBt
              go_wp2_with fail
              exact ⟨⟨j + 1, bq, Q, A8, c8, by omega, by omega, by go_num, rfl, rfl, hR8, hc8, by omega, hT8, hB⟩, by simp [RowKit.intOf]; omega⟩

          | some vv =>
            rw [hg] at kg kd
            simp only [Option.isSome_some, Option.getD_some] at kg kd
            go_wp2_with fail
            refine (kg).mono ?_
            rintro e w5 ⟨rfl, hB5⟩
            simp only [Option.isSome_none, Option.isSome_some, Option.getD_none, Option.getD_some]
            try unfold at0
            have hB := hB.trans (hB5.mono hB.size)
            have hT := hT.below hB5
            have hR := hR.below hB5
            have hP := hP.stay hB5
            have hAct := hAct.stay hB5
            clear kg p0 p1 d0 hB5
            have p0 : w5.cell? ⟨N11, 0, none⟩ = some (.string p.1) := hP.cell 0
            have p1 : w5.cell? ⟨N11, 1, none⟩ = some (.string p.2) := hP.cell 1
            have d0 : w5.cell? ⟨N10, 0, none⟩ = some (.int .u8 dd) := hAct.cell 0

            go_wp2_with fail
            refine (kd _ hT).mono ?_
            rintro e wd ⟨bq, rfl, hsame, hT8, hBd⟩
            try unfold at0
            have hB := hB.trans (hBd.mono hB.size)
            have hT := hT.below hBd
            have hR := hR.below hBd
            have hP := hP.stay hBd
            clear p0 p1 d0 hBd
            have p0 : wd.cell? ⟨N11, 0, none⟩ = some (.string p.1) := hP.cell 0
            have p1 : wd.cell? ⟨N11, 1, none⟩ = some (.string p.2) := hP.cell 1
            clear hsame
            clear kd
            go_wp2_with fail
            refine (refDrop_any A c ps p.1 wd hR (by omega)).mono ?_
            rintro e we ⟨v8, rfl, hO8, hBv⟩
            obtain ⟨A8, c8, rfl, hR8, hc8⟩ := hO8.rdc
            clear hO8
            try unfold at0
            have hB := hB.trans (hBv.mono hB.size)
            have hT8 := hT8.below hBv
            have hP := hP.stay hBv
            clear p0 p1 hBv
            have p0 : we.cell? ⟨N11, 0, none⟩ = some (.string p.1) := hP.cell 0
            have p1 : we.cell? ⟨N11, 1, none⟩ = some (.string p.2) := hP.cell 1
            obtain ⟨Q, hQ⟩ : ∃ Q, Q = dropK ps p.1 := ⟨_, rfl⟩
            have hlQ : Q.length ≤ j + 1 := by rw [hQ]; exact Nat.le_trans (List.length_filter_le _ _) (by omega)
            rw [← hQ] at hT8 hR8 hc8 ⊢
            clear hQ hT hR
            go_wp2_with fail
            refine (get_list hT8 p.1 (by omega)).mono ?_
            rintro e wa ⟨rfl, hBa⟩
            try unfold at0
            have hB := hB.trans (hBa.mono hB.size)
            have hT8 := hT8.below hBa
            have hR8 := hR8.below hBa
            have hP := hP.stay hBa
            clear p0 p1 hBa
            have p0 : wa.cell? ⟨N11, 0, none⟩ = some (.string p.1) := hP.cell 0
            have p1 : wa.cell? ⟨N11, 1, none⟩ = some (.string p.2) := hP.cell 1
            go_wp2_with fail
            refine (refGetR_any A8 c8 Q p.1 wa hR8 (by omega) (sized_mem fun x hx => Nat.le_trans (hT8.keys x hx) (by unfold maxLen; omega)) (by unfold maxLen; omega)).mono ?_
            rintro e wb ⟨rfl, hBb⟩
            try unfold at0
            have hB := hB.trans (hBb.mono hB.size)
            have hT8 := hT8.below hBb
            have hR8 := hR8.below hBb
            have hP := hP.stay hBb
            clear p0 p1 hBb
            have p0 : wb.cell? ⟨N11, 0, none⟩ = some (.string p.1) := hP.cell 0
            have p1 : wb.cell? ⟨N11, 1, none⟩ = some (.string p.2) := hP.cell 1
            clear p0 p1 hP
            have kt := tree_list hT8 A8 c8 (by omega) hR8 hc8
            try unfold at0 at kt
            generalize getR Q p.1 = gq at *
            cases gq
            all_goals
              simp only [Option.isSome_none, Option.isSome_some, Option.getD_none, Option.getD_some]
              go_wp2_with fail
              refine kt.mono ?_
              rintro e wt ⟨rfl, hBt⟩
              have hB := hB.trans (hBt.mono hB.size)
              have hT8 := hT8.below hBt
              have hR8 := hR8.below hBt
              clear kt hBt
              go_wp2_with fail
              exact ⟨⟨j + 1, bq, Q, A8, c8, by omega, by omega, by go_num, rfl, rfl, hR8, hc8, by omega, hT8, hB⟩, by simp [RowKit.intOf]; omega⟩

        · have D3 := (dmod hdd).2 h3
          clear kd
          cases hg : getR ps p.1 with
          | none =>
            rw [hg] at kg kp
            simp only [Option.isSome_none, Option.getD_none, Option.isNone_none] at kg kp
            go_wp2_with fail
            refine (kg).mono ?_
            rintro e w5 ⟨rfl, hB5⟩
            simp only [Option.isSome_none, Option.isSome_some, Option.getD_none, Option.getD_some]
            try unfold at0
            have hB := hB.trans (hB5.mono hB.size)
            have hT := hT.below hB5
            have hR := hR.below hB5
            have hP := hP.stay hB5
            have hAct := hAct.stay hB5
            clear kg p0 p1 d0 hB5
            have p0 : w5.cell? ⟨N11, 0, none⟩ = some (.string p.1) := hP.cell 0
            have p1 : w5.cell? ⟨N11, 1, none⟩ = some (.string p.2) := hP.cell 1
            have d0 : w5.cell? ⟨N10, 0, none⟩ = some (.int .u8 dd) := hAct.cell 0

            go_wp2_with fail
            refine (kp _ hT).mono ?_
            rintro e wd ⟨bq, rfl, hsame, hT8, hBd⟩
            try unfold at0
            have hB := hB.trans (hBd.mono hB.size)
            have hT := hT.below hBd
            have hR := hR.below hBd
            have hP := hP.stay hBd
            clear p0 p1 d0 hBd
            have p0 : wd.cell? ⟨N11, 0, none⟩ = some (.string p.1) := hP.cell 0
            have p1 : wd.cell? ⟨N11, 1, none⟩ = some (.string p.2) := hP.cell 1
            clear hsame
            clear kp
            go_wp2_with fail
            refine (refPut_any A c ps p wd hR (by omega) (sized_mem fun x hx => Nat.le_trans (hT.keys x hx) (by unfold maxLen; omega)) (by unfold maxLen; omega)).mono ?_
            rintro e we ⟨v8, rfl, hO8, hBv⟩
            obtain ⟨A8, c8, rfl, hR8, hc8⟩ := hO8.rdc
            clear hO8
            try unfold at0
            have hB := hB.trans (hBv.mono hB.size)
            have hT8 := hT8.below hBv
            have hP := hP.stay hBv
            clear p0 p1 hBv
            have p0 : we.cell? ⟨N11, 0, none⟩ = some (.string p.1) := hP.cell 0
            have p1 : we.cell? ⟨N11, 1, none⟩ = some (.string p.2) := hP.cell 1
            obtain ⟨Q, hQ⟩ : ∃ Q, Q = putK ps p := ⟨_, rfl⟩
            have hlQ : Q.length ≤ j + 1 := by rw [hQ]; exact Nat.le_trans (put_lenR ps p) (by omega)
            rw [← hQ] at hT8 hR8 hc8 ⊢
            clear hQ hT hR
            go_wp2_with fail
            refine (get_list hT8 p.1 (by omega)).mono ?_
            rintro e wa ⟨rfl, hBa⟩
            try unfold at0
            have hB := hB.trans (hBa.mono hB.size)
            have hT8 := hT8.below hBa
            have hR8 := hR8.below hBa
            have hP := hP.stay hBa
            clear p0 p1 hBa
            have p0 : wa.cell? ⟨N11, 0, none⟩ = some (.string p.1) := hP.cell 0
            have p1 : wa.cell? ⟨N11, 1, none⟩ = some (.string p.2) := hP.cell 1
            go_wp2_with fail
            refine (refGetR_any A8 c8 Q p.1 wa hR8 (by omega) (sized_mem fun x hx => Nat.le_trans (hT8.keys x hx) (by unfold maxLen; omega)) (by unfold maxLen; omega)).mono ?_
            rintro e wb ⟨rfl, hBb⟩
            try unfold at0
            have hB := hB.trans (hBb.mono hB.size)
            have hT8 := hT8.below hBb
            have hR8 := hR8.below hBb
            have hP := hP.stay hBb
            clear p0 p1 hBb
            have p0 : wb.cell? ⟨N11, 0, none⟩ = some (.string p.1) := hP.cell 0
            have p1 : wb.cell? ⟨N11, 1, none⟩ = some (.string p.2) := hP.cell 1
            clear p0 p1 hP
            have kt := tree_list hT8 A8 c8 (by omega) hR8 hc8
            try unfold at0 at kt
            generalize getR Q p.1 = gq at *
            cases gq
            all_goals
              simp only [Option.isSome_none, Option.isSome_some, Option.getD_none, Option.getD_some]
              go_wp2_with fail
              refine kt.mono ?_
              rintro e wt ⟨rfl, hBt⟩
              have hB := hB.trans (hBt.mono hB.size)
              have hT8 := hT8.below hBt
              have hR8 := hR8.below hBt
              clear kt hBt
              go_wp2_with fail
              exact ⟨⟨j + 1, bq, Q, A8, c8, by omega, by omega, by go_num, rfl, rfl, hR8, hc8, by omega, hT8, hB⟩, by simp [RowKit.intOf]; omega⟩

          | some vv =>
            by_cases hv : vv = p.2
            · subst hv
              rw [hg] at kg kp
              simp only [Option.isSome_some, Option.getD_some, Option.isNone_some] at kg kp
              go_wp2_with fail
              refine (kg).mono ?_
              rintro e w5 ⟨rfl, hB5⟩
              simp only [Option.isSome_none, Option.isSome_some, Option.getD_none, Option.getD_some]
              try unfold at0
              have hB := hB.trans (hB5.mono hB.size)
              have hT := hT.below hB5
              have hR := hR.below hB5
              have hP := hP.stay hB5
              have hAct := hAct.stay hB5
              clear kg p0 p1 d0 hB5
              have p0 : w5.cell? ⟨N11, 0, none⟩ = some (.string p.1) := hP.cell 0
              have p1 : w5.cell? ⟨N11, 1, none⟩ = some (.string p.2) := hP.cell 1
              have d0 : w5.cell? ⟨N10, 0, none⟩ = some (.int .u8 dd) := hAct.cell 0

              go_wp2_with fail
              refine (kp _ hT).mono ?_
              rintro e wd ⟨bq, rfl, hsame, hT8, hBd⟩
              try unfold at0
              have hB := hB.trans (hBd.mono hB.size)
              have hT := hT.below hBd
              have hR := hR.below hBd
              have hP := hP.stay hBd
              clear p0 p1 d0 hBd
              have p0 : wd.cell? ⟨N11, 0, none⟩ = some (.string p.1) := hP.cell 0
              have p1 : wd.cell? ⟨N11, 1, none⟩ = some (.string p.2) := hP.cell 1
              obtain rfl := hsame (by first | trivial | rfl)
              clear hsame
              clear kp
              go_wp2_with fail
              refine (refPut_any A c ps p wd hR (by omega) (sized_mem fun x hx => Nat.le_trans (hT.keys x hx) (by unfold maxLen; omega)) (by unfold maxLen; omega)).mono ?_
              rintro e we ⟨v8, rfl, hO8, hBv⟩
              obtain ⟨A8, c8, rfl, hR8, hc8⟩ := hO8.rdc
              clear hO8
              try unfold at0
              have hB := hB.trans (hBv.mono hB.size)
              have hT8 := hT8.below hBv
              have hP := hP.stay hBv
              clear p0 p1 hBv
              have p0 : we.cell? ⟨N11, 0, none⟩ = some (.string p.1) := hP.cell 0
              have p1 : we.cell? ⟨N11, 1, none⟩ = some (.string p.2) := hP.cell 1
              obtain ⟨Q, hQ⟩ : ∃ Q, Q = putK ps p := ⟨_, rfl⟩
              have hlQ : Q.length ≤ j + 1 := by rw [hQ]; exact Nat.le_trans (put_lenR ps p) (by omega)
              rw [← hQ] at hT8 hR8 hc8 ⊢
              clear hQ hT hR
              go_wp2_with fail
              refine (get_list hT8 p.1 (by omega)).mono ?_
              rintro e wa ⟨rfl, hBa⟩
              try unfold at0
              have hB := hB.trans (hBa.mono hB.size)
              have hT8 := hT8.below hBa
              have hR8 := hR8.below hBa
              have hP := hP.stay hBa
              clear p0 p1 hBa
              have p0 : wa.cell? ⟨N11, 0, none⟩ = some (.string p.1) := hP.cell 0
              have p1 : wa.cell? ⟨N11, 1, none⟩ = some (.string p.2) := hP.cell 1
              go_wp2_with fail
              refine (refGetR_any A8 c8 Q p.1 wa hR8 (by omega) (sized_mem fun x hx => Nat.le_trans (hT8.keys x hx) (by unfold maxLen; omega)) (by unfold maxLen; omega)).mono ?_
              rintro e wb ⟨rfl, hBb⟩
              try unfold at0
              have hB := hB.trans (hBb.mono hB.size)
              have hT8 := hT8.below hBb
              have hR8 := hR8.below hBb
              have hP := hP.stay hBb
              clear p0 p1 hBb
              have p0 : wb.cell? ⟨N11, 0, none⟩ = some (.string p.1) := hP.cell 0
              have p1 : wb.cell? ⟨N11, 1, none⟩ = some (.string p.2) := hP.cell 1
              clear p0 p1 hP
              have kt := tree_list hT8 A8 c8 (by omega) hR8 hc8
              try unfold at0 at kt
              generalize getR Q p.1 = gq at *
              cases gq
              all_goals
                simp only [Option.isSome_none, Option.isSome_some, Option.getD_none, Option.getD_some]
                go_wp2_with fail
                refine kt.mono ?_
                rintro e wt ⟨rfl, hBt⟩
                have hB := hB.trans (hBt.mono hB.size)
                have hT8 := hT8.below hBt
                have hR8 := hR8.below hBt
                clear kt hBt
                go_wp2_with fail
                exact ⟨⟨j + 1, bq, Q, A8, c8, by omega, by omega, by go_num, rfl, rfl, hR8, hc8, by omega, hT8, hB⟩, by simp [RowKit.intOf]; omega⟩

            · rw [hg] at kg kp
              have hvb := bytes_neR hv
              simp only [Option.isSome_some, Option.getD_some, Option.isNone_some] at kg kp
              go_wp2_with fail
              refine (kg).mono ?_
              rintro e w5 ⟨rfl, hB5⟩
              simp only [Option.isSome_none, Option.isSome_some, Option.getD_none, Option.getD_some]
              try unfold at0
              have hB := hB.trans (hB5.mono hB.size)
              have hT := hT.below hB5
              have hR := hR.below hB5
              have hP := hP.stay hB5
              have hAct := hAct.stay hB5
              clear kg p0 p1 d0 hB5
              have p0 : w5.cell? ⟨N11, 0, none⟩ = some (.string p.1) := hP.cell 0
              have p1 : w5.cell? ⟨N11, 1, none⟩ = some (.string p.2) := hP.cell 1
              have d0 : w5.cell? ⟨N10, 0, none⟩ = some (.int .u8 dd) := hAct.cell 0

              go_wp2_with fail
              refine (kp _ hT).mono ?_
              rintro e wd ⟨bq, rfl, hsame, hT8, hBd⟩
              try unfold at0
              have hB := hB.trans (hBd.mono hB.size)
              have hT := hT.below hBd
              have hR := hR.below hBd
              have hP := hP.stay hBd
              clear p0 p1 d0 hBd
              have p0 : wd.cell? ⟨N11, 0, none⟩ = some (.string p.1) := hP.cell 0
              have p1 : wd.cell? ⟨N11, 1, none⟩ = some (.string p.2) := hP.cell 1
              clear hsame
              clear kp
              go_wp2_with fail
              refine (refPut_any A c ps p wd hR (by omega) (sized_mem fun x hx => Nat.le_trans (hT.keys x hx) (by unfold maxLen; omega)) (by unfold maxLen; omega)).mono ?_
              rintro e we ⟨v8, rfl, hO8, hBv⟩
              obtain ⟨A8, c8, rfl, hR8, hc8⟩ := hO8.rdc
              clear hO8
              try unfold at0
              have hB := hB.trans (hBv.mono hB.size)
              have hT8 := hT8.below hBv
              have hP := hP.stay hBv
              clear p0 p1 hBv
              have p0 : we.cell? ⟨N11, 0, none⟩ = some (.string p.1) := hP.cell 0
              have p1 : we.cell? ⟨N11, 1, none⟩ = some (.string p.2) := hP.cell 1
              obtain ⟨Q, hQ⟩ : ∃ Q, Q = putK ps p := ⟨_, rfl⟩
              have hlQ : Q.length ≤ j + 1 := by rw [hQ]; exact Nat.le_trans (put_lenR ps p) (by omega)
              rw [← hQ] at hT8 hR8 hc8 ⊢
              clear hQ hT hR
              go_wp2_with fail
              refine (get_list hT8 p.1 (by omega)).mono ?_
              rintro e wa ⟨rfl, hBa⟩
              try unfold at0
              have hB := hB.trans (hBa.mono hB.size)
              have hT8 := hT8.below hBa
              have hR8 := hR8.below hBa
              have hP := hP.stay hBa
              clear p0 p1 hBa
              have p0 : wa.cell? ⟨N11, 0, none⟩ = some (.string p.1) := hP.cell 0
              have p1 : wa.cell? ⟨N11, 1, none⟩ = some (.string p.2) := hP.cell 1
              go_wp2_with fail
              refine (refGetR_any A8 c8 Q p.1 wa hR8 (by omega) (sized_mem fun x hx => Nat.le_trans (hT8.keys x hx) (by unfold maxLen; omega)) (by unfold maxLen; omega)).mono ?_
              rintro e wb ⟨rfl, hBb⟩
              try unfold at0
              have hB := hB.trans (hBb.mono hB.size)
              have hT8 := hT8.below hBb
              have hR8 := hR8.below hBb
              have hP := hP.stay hBb
              clear p0 p1 hBb
              have p0 : wb.cell? ⟨N11, 0, none⟩ = some (.string p.1) := hP.cell 0
              have p1 : wb.cell? ⟨N11, 1, none⟩ = some (.string p.2) := hP.cell 1
              clear p0 p1 hP
              have kt := tree_list hT8 A8 c8 (by omega) hR8 hc8
              try unfold at0 at kt
              generalize getR Q p.1 = gq at *
              cases gq
              all_goals
                simp only [Option.isSome_none, Option.isSome_some, Option.getD_none, Option.getD_some]
                go_wp2_with fail
                refine kt.mono ?_
                rintro e wt ⟨rfl, hBt⟩
                have hB := hB.trans (hBt.mono hB.size)
                have hT8 := hT8.below hBt
                have hR8 := hR8.below hBt
                clear kt hBt
                go_wp2_with fail
                exact ⟨⟨j + 1, bq, Q, A8, c8, by omega, by omega, by go_num, rfl, rfl, hR8, hc8, by omega, hT8, hB⟩, by simp [RowKit.intOf]; omega⟩

      · have G : (60 : Int) ≤ (j : Int) := by omega
        have HF := Lib.hid (plays25_any (fun e w' => e = .returned (.bool true) ∧ Below w.heap.size w w') a2 len2 cap2 ss w W1 HS.out b ps A c hB hR (by omega) hT (fun w' h => ⟨rfl, h⟩))
        clear hR hT hAct HA HS
        repeat (first | exact HF.out _ _ _ _ _ _ _ _ _ _ _ _ _ _ _ _ _ _ _ _ _ _ _ _ _ _ _ _ _ _ _ _ _ _ _ _ _ _ _ _ _ _ _ _ _ _ _ _ _ _ _ _ _ _ _ _ _ _ _ _ _ _ _ _ _ _ _ _ _ _ _ _ _ _ _ _ _ _ _ _ _ _ _ _ _ _ _ _ _ _ _ _ _ _ _ _ _ _ _ _ _ _ _ _ _ _ _ _ _ _ _ _ _ _ _ _ _ _ _ _ _ _ _ _ _ _ _ _ _ _ _ _ _ _ _ _ _ _ _ _ _ _ _ _ _ _ _ _ _ _ _ _ _ _ _ _ _ _ _ _ _ _ _ | go_step)
    · obtain rfl : j = len1 := by omega
      have G : ¬ ((j : Int) < (j : Int)) := by omega
      have HF := Lib.hid (plays25_any (fun e w' => e = .returned (.bool true) ∧ Below w.heap.size w w') a2 len2 cap2 ss w wr HS.out b ps A c hB hR (by omega) hT (fun w' h => ⟨rfl, h⟩))
      clear hR hT HA HS
      repeat (first | exact HF.out _ _ _ _ _ _ _ _ _ _ _ _ _ _ _ _ _ _ _ _ _ _ _ _ _ _ _ _ _ _ _ _ _ _ _ _ _ _ _ _ _ _ _ _ _ _ _ _ _ _ _ _ _ _ _ _ _ _ _ _ _ _ _ _ _ _ _ _ _ _ _ _ _ _ _ _ _ _ _ _ _ _ _ _ _ _ _ _ _ _ _ _ _ _ _ _ _ _ _ _ _ _ _ _ _ _ _ _ _ _ _ _ _ _ _ _ _ _ _ _ _ _ _ _ _ _ _ _ _ _ _ _ _ _ _ _ _ _ _ _ _ _ _ _ _ _ _ _ _ _ _ _ _ _ _ _ _ _ _ _ _ _ _ | go_step)

/-! ### THE ROW's STEP -/
set_option maxRecDepth 100000 in
theorem lifted (os : Os) (started : os.Started) (H : Type) (enc : TypeId × Value → H) :
    ReturnsInHanded {} Try.checked os 4 .any (Rows.radixPlaysSpec.pre6 enc Try.prog Try.f4 Rows.radixPlaysRow.domain false) (Rows.radixPlaysSpec.post enc Try.prog Try.f4 false true false false) := by
  refine returnsInHanded_of_change (C := Try.checked) own started (by kernel_rfl) Try.func4
    (ChangeSpec.witness6 (enc := enc) (C := Try.checked) false ⟨#[], #[.slice none 0 0, .slice none 0 0], []⟩ 8 (by kernel_rfl) (by kernel_rfl) (by kernel_rfl) (by kernel_rfl)) ?_
  intro W base args ds gs before hval0 hW hcnd _
  have hval : ∀ (j : Nat) t v, Try.f4.params[j]? = some t → args[j]? = some v → Value.okWide Try.prog W .any base t v := hval0
  have hW' := hW
  obtain ⟨p, q, hA0, hV, rfl, hfz, hnd⟩ := hW
  have hA : DataW.TrodAll enc Try.prog W 0 (fun _ => true) true Try.f4.params.toList args.toList ds p := hA0
  rw [Try.params4] at hA hval
  obtain ⟨v0, vs0, d0, ds0, p0, q0, hargs, rfl, rfl, h0, r0⟩ := trodAll_cons hA
  obtain ⟨v1, vs1, d1, ds1, p1, q1, rfl, rfl, rfl, h1, r1⟩ := trodAll_cons r0
  obtain ⟨rfl, rfl, rfl⟩ := trodAll_nil r1
  obtain rfl : args = #[v0, v1] := by cases args; simp_all
  obtain ⟨rfl, rfl⟩ := trodVars_none hV
  have k0 := h0
  have lt0 : ∀ x ∈ p0, x.block < W.heap.size := by obtain ⟨m, hm⟩ := k0; exact DataW.trod_lt m _ _ _ hm
  obtain ⟨a0, len0, cap0, rfl⟩ := okWide_slice Try.underlying28 (hval 0 28 v0 rfl rfl)
  have w0 := open_acts h0
  have k1 := h1
  have lt1 : ∀ x ∈ p1, x.block < W.heap.size := by obtain ⟨m, hm⟩ := k1; exact DataW.trod_lt m _ _ _ hm
  obtain ⟨a1, len1, cap1, rfl⟩ := okWide_slice Try.underlying29 (hval 1 29 v1 rfl rfl)
  obtain ⟨z1, w1⟩ := open_strs h1
  clear hA0 hval0
  refine (walk a0 len0 cap0 a1 len1 cap1 z1 W w0 w1).mono fun e W' ⟨he, bel⟩ => ?_
  subst he
  exact ⟨_, rfl, _, _, _, [], _, [], hW', trodAll_mk1 (shut_bool Try.underlying4 _), (trodAll_cons_mk (Below.trod laidOut (by kernel_rfl) (of_decide_eq_true (by kernel_rfl)) k0 bel lt0) (trodAll_cons_mk (Below.trod laidOut (by kernel_rfl) (of_decide_eq_true (by kernel_rfl)) k1 bel lt1) trodAll_mk0)), rfl, bel.frame _, fun h => by cases h⟩

theorem over : Rows.radixPlaysRow.holds Try.pinned (OpenSpec.ofChange Rows.radixPlaysSpec) :=
  OpenClaim.holds_of_wide 4 Try.f4 rfl rfl rfl rfl rfl rfl rfl ⟨rfl, rfl, rfl, rfl, rfl⟩ rfl rfl rfl rfl rfl (by kernel_rfl) Try.func4 (by kernel_rfl)
    (of_decide_eq_true (by kernel_rfl)) (by unfold Func.isWrapper; first | (rw [if_pos (by decide +kernel)]; kernel_rfl) | (rw [if_neg (by decide +kernel)]; exact ⟨rfl, rfl⟩))
    (fun os started H enc _ => lifted os started H enc)

theorem proved : Rows.RadixPlaysSaid := over
#print axioms proved
end Go.Proofs.Ytchimfgbdfmegaa.radixPlays
