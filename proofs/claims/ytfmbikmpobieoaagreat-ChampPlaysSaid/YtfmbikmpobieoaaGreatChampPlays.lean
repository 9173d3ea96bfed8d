/- ChampPlays: for every hasher, every script of putting and dropping and every list of keys the law returns true: each trie has just the shape of the document, and returns the value of each key, there or not. Conditions: none beyond the given statement. -/
import Derived.Test.YtfmbikmpobieoaaGreatRows
import Derived.WalkKit
import Derived.ProofKit
import Derived.OpenShut
import Derived.ShutString
import Derived.ChangeOld
import Derived.Below
import Derived.BigQuiet
import Derived.Deep.RegionHeld3
import Derived.Carry
import Derived.Lib.SmallJoins
import Derived.Test.YtfmbikmpobieoaaGreatMF
import Derived.Test.YtfmbikmpobieoaaGreatMQ
namespace Go.Proofs.YtfmbikmpobieoaaGreat.champPlays
open Go.ChangeShapes Go.WideShapes Go.ChangeAt Go.RowKit Go.Joins Go.Lib
open Go.ChangeMaps (open_string shut_string)
set_option linter.unusedVariables false
set_option linter.unusedSimpArgs false
set_option maxRecDepth 100000
attribute [local irreducible] cnt

theorem own : ownKnob Tryz.prog.godebug = none := by kernel_rfl
theorem laidOut : laidOutB Tryz.prog = true := by kernel_rfl

theorem dmod {dd : Nat} (h : dd < 256) : (dd % 4 = 3 → IntKind.u8.wrap (Int.tmod (dd : Int) 4) = 3) ∧ (dd % 4 ≠ 3 → ¬ IntKind.u8.wrap (Int.tmod (dd : Int) 4) = 3) := by
  have e : IntKind.u8.wrap (Int.tmod (dd : Int) 4) = ((dd % 4 : Nat) : Int) := by
    have e1 : Int.tmod (dd : Int) 4 = ((dd % 4 : Nat) : Int) := by rw [Int.tmod_eq_emod_of_nonneg (by omega)]; omega
    rw [e1]
    unfold IntKind.wrap
    simp [IntKind.bits, IntKind.signed]
    omega
  rw [e]
  exact ⟨fun h => by omega, fun h => by omega⟩
theorem rdbelow {w w' : World} {A : Option Addr} {xs : List Pr} (h : Rd w A xs) (hb : Below w.heap.size w w') : Rd w' A xs := h.below hb
theorem field0 (k u : ByteArray) (w : World) : (Instr.field 34 (.agg #[.string k, .string u]) 0).run Tryz.prog w = .ok (.string k) w := by
  kernel_rfl
noncomputable def plays25 : Code := (Tryz.f3.body.bind (fromRegion 25)).getD .skip
set_option maxHeartbeats 8000000 in
theorem plays25_any (post : Ending → World → Prop) (k0 k1 m : Int) (a2 : Option Addr) (len2 cap2 : Nat) (ss : List ByteArray) (w0 w : World) (h0 : U64 k0) (h1 : U64 k1) (hS : ArgS w0 a2 len2 cap2 ss) (N3 b : Nat) (ps : List Pr) (A : Option Addr) (c base : Nat)
    (hB0 : Below w0.heap.size w0 w) (hR : Rd w A ps) (hr : RisesL ps) (hpl : ps.length ≤ 50) (hz : ∀ x ∈ ps, x.1.size ≤ 40) (hT : TP k0 k1 m base w b ps) (hH : Blk w N3 26 #[.int .u64 k0, .int .u64 k1, .int .u64 m]) (hpost : ∀ w', Below w0.heap.size w0 w' → post (.returned (.bool true)) w') (x0 x1 x4 x5 x6 x9 x10 x11 x12 x13 x14 x15 x16 x17 x18 x19 x20 x21 x22 x23 x24 x25 x26 x27 x28 x29 x30 x31 x32 x33 x34 x35 x36 x37 x38 x39 x40 x41 x42 x43 x44 x45 x46 x47 x48 x49 x50 x51 x52 x53 x54 x55 x56 x57 x58 x59 x60 x61 x62 x63 x64 x65 x66 x67 x68 x69 x70 x71 x72 x73 x74 x75 x76 x77 x78 x79 x80 x81 x82 x83 x84 x85 x86 x87 x88 x89 x90 x91 x92 x93 x94 x95 x96 x97 x98 x99 x100 x101 x102 x103 x104 x105 x106 x107 x108 x109 x110 x111 x112 x113 x114 x115 x116 x117 x118 x119 x120 x121 x122 x123 x124 x125 x126 x127 x128 x129 x130 x131 x132 x133 x134 x135 x136 x137 x138 x139 x140 x141 x142 x143 x144 x145 x146 x147 x148 x149 x150 x151 x152 x153 x154 x155 x156 x157 x158 x159 x160 x161 x162 x163 x164 x165 x166 x167 x168 x169 : Value) :
    Code.wp Tryz.prog plays25 (bodyPost Tryz.prog Tryz.f3 post) ⟨#[x0, x1, .slice a2 len2 cap2, .pointer (some ⟨N3, 0, none⟩), x4, x5, x6, .pointer (some ⟨b, 0, none⟩), .slice A ps.length c, x9, x10, x11, x12, x13, x14, x15, x16, x17, x18, x19, x20, x21, x22, x23, x24, x25, x26, x27, x28, x29, x30, x31, x32, x33, x34, x35, x36, x37, x38, x39, x40, x41, x42, x43, x44, x45, x46, x47, x48, x49, x50, x51, x52, x53, x54, x55, x56, x57, x58, x59, x60, x61, x62, x63, x64, x65, x66, x67, x68, x69, x70, x71, x72, x73, x74, x75, x76, x77, x78, x79, x80, x81, x82, x83, x84, x85, x86, x87, x88, x89, x90, x91, x92, x93, x94, x95, x96, x97, x98, x99, x100, x101, x102, x103, x104, x105, x106, x107, x108, x109, x110, x111, x112, x113, x114, x115, x116, x117, x118, x119, x120, x121, x122, x123, x124, x125, x126, x127, x128, x129, x130, x131, x132, x133, x134, x135, x136, x137, x138, x139, x140, x141, x142, x143, x144, x145, x146, x147, x148, x149, x150, x151, x152, x153, x154, x155, x156, x157, x158, x159, x160, x161, x162, x163, x164, x165, x166, x167, x168, x169], []⟩ w := by
  have hl2 := hS.len_le
  have HS := Lib.hid hS
  have HP := Lib.hid hpost
  clear hS hpost
  simp only []
  conv => arg 2; whnf
  go_wp2_with fail
  go_loopw [133] (fun vi wr => ∃ j : Nat, j ≤ len2 ∧ vi = .int .i64 j ∧ Rd wr A ps ∧ TP k0 k1 m base wr b ps ∧ Blk wr N3 26 #[.int .u64 k0, .int .u64 k1, .int .u64 m] ∧ Below w0.heap.size w0 wr) (fun vi wr => len2 - (intOf vi).toNat)
  case atStart => exact ⟨0, by omega, rfl, hR, hT, hH, hB0⟩
  case round =>
    clear hR hT hH hB0
    obtain ⟨j, hj, rfl, hR, hT, hH, hB⟩ := hrel
    by_cases hlt : j < len2
    · obtain ⟨x, s, rfl, c0⟩ := HS.out.at hB j hlt
      have L1 : (j : Int) < (len2 : Int) := by omega
      have L2 : IntKind.i64.wrap ((j : Int) + 1) = ((j + 1 : Nat) : Int) := by rw [IntWalk.i64_in _ (by unfold maxLen at hl2; omega)]; omega
      by_cases h20 : j < 20
      · have G : ¬ ((20 : Int) ≤ (j : Int)) := by omega
        have kf := few_any (s, ⟨#[]⟩) wr
        have hsz : (few40 (s, ⟨#[]⟩)).1.size ≤ 40 := cut40_size s
        go_wp2_with fail
        refine kf.mono ?_
        rintro e w1 ⟨rfl, hB1⟩
        obtain ⟨k, hk⟩ : ∃ k, k = (few40 (s, ⟨#[]⟩)).1 := ⟨_, rfl⟩
        rw [← hk] at hsz ⊢
        generalize (few40 (s, ⟨#[]⟩)).2 = uu at *
        have hfl := field0 k uu w1
        have hB := hB.trans (hB1.mono hB.size)
        have hR := hR.below hB1
        have hT := hT.below hB1
        have hH := hH.below hB1
        clear kf hB1 hk c0
        have s0 : w1.cell? ⟨N3, 0, none⟩ = some (.int .u64 k0) := hH.cell 0
        have s1 : w1.cell? ⟨N3, 1, none⟩ = some (.int .u64 k1) := hH.cell 1
        have s2 : w1.cell? ⟨N3, 2, none⟩ = some (.int .u64 m) := hH.cell 2
        go_wp2_with fail
        refine (get_plain (k := k) h0 h1 (by omega) hT (by omega)).mono ?_
        rintro e w2 ⟨rfl, hB2⟩
        have hB := hB.trans (hB2.mono hB.size)
        have hR := hR.below hB2
        have hT := hT.below hB2
        have hH := hH.below hB2
        clear s0 s1 s2 hB2
        go_wp2_with fail
        refine (refGet_any A c ps k w2 hR hr (by omega) (sized_mem fun x hx => Nat.le_trans (hz x hx) (by unfold maxLen; omega)) (by unfold maxLen; omega)).mono ?_
        rintro e w3 ⟨rfl, hB3⟩
        have hB := hB.trans (hB3.mono hB.size)
        have hR := hR.below hB3
        have hT := hT.below hB3
        have hH := hH.below hB3
        clear hB3
        generalize getK ps k = gq at *
        cases gq
        all_goals
          simp only [Option.isSome_none, Option.isSome_some, Option.getD_none, Option.getD_some]
          go_wp2_with fail
          exact ⟨⟨j + 1, by omega, by go_num, hR, hT, hH, hB⟩, by simp [intOf]; omega⟩
      · have G : (20 : Int) ≤ (j : Int) := by omega
        have s0 : wr.cell? ⟨N3, 0, none⟩ = some (.int .u64 k0) := hH.cell 0
        have s1 : wr.cell? ⟨N3, 1, none⟩ = some (.int .u64 k1) := hH.cell 1
        have s2 : wr.cell? ⟨N3, 2, none⟩ = some (.int .u64 m) := hH.cell 2
        have kt := trie_plain (A := A) (c := c) hT h0 h1 hR (by omega) (fun x hx => Nat.le_trans (hz x hx) (by omega))
        clear hR hT hH
        go_wp2_with fail
        refine kt.mono ?_
        rintro e w4 ⟨rfl, hB4⟩
        go_wp2_with fail
        exact HP.out _ (hB.trans (hB4.mono hB.size))
    · obtain rfl : j = len2 := by omega
      have G : ¬ ((j : Int) < (j : Int)) := by omega
      have s0 : wr.cell? ⟨N3, 0, none⟩ = some (.int .u64 k0) := hH.cell 0
      have s1 : wr.cell? ⟨N3, 1, none⟩ = some (.int .u64 k1) := hH.cell 1
      have s2 : wr.cell? ⟨N3, 2, none⟩ = some (.int .u64 m) := hH.cell 2
      have kt := trie_plain (A := A) (c := c) hT h0 h1 hR (by omega) (fun x hx => Nat.le_trans (hz x hx) (by omega))
      clear hR hT hH
      go_wp2_with fail
      refine kt.mono ?_
      rintro e w4 ⟨rfl, hB4⟩
      go_wp2_with fail
      exact HP.out _ (hB.trans (hB4.mono hB.size))
set_option maxHeartbeats 16000000 in
theorem walk (k0 k1 m : Int) (a1 : Option Addr) (len1 cap1 : Nat) (a2 : Option Addr) (len2 cap2 : Nat) (ss : List ByteArray) (w : World) (h0 : U64 k0) (h1 : U64 k1) (hA : ArgA w a1 len1 cap1) (hS : ArgS w a2 len2 cap2 ss) :
    Calls Tryz.prog 3 #[.agg #[.int .u64 k0, .int .u64 k1, .int .u64 m], .slice a1 len1 cap1, .slice a2 len2 cap2] w fun e w' => e = .returned (.bool true) ∧ Below w.heap.size w w' := by
  have hB0 := (Below.refl _ w).alloc (Nat.le_refl _) (.cells #[.int .u64 k0, .int .u64 k1, .int .u64 m] 26)
  have b1 := Blk.new w 26 #[.int .u64 k0, .int .u64 k1, .int .u64 m]
  have hl1 := hA.len_le
  have HA := Lib.hid hA
  have HS := Lib.hid hS
  clear hA hS
  go_enter Tryz.func3, Tryz.ntmps3
  go_upto_region 1 with (fail)
  generalize w.alloc (.cells #[.int .u64 k0, .int .u64 k1, .int .u64 m] 26) = W at *
  obtain ⟨N3, hN3⟩ : ∃ N3, N3 = w.heap.size := ⟨_, rfl⟩
  rw [← hN3] at b1 ⊢
  clear hN3
  go_wp2_with fail
  refine (awake_any _).mono ?_
  rintro e w1 ⟨rfl, hB1⟩
  have hH := b1.below hB1
  have hB := hB0.trans (hB1.mono hB0.size)
  clear b1 hB1 hB0
  go_wp2_with fail
  refine (empty_plain (base := w.heap.size) k0 k1 m hB.size).mono ?_
  rintro e w2 ⟨b, rfl, hT, hB2⟩
  have hH := hH.below hB2
  have hB := hB.trans (hB2.mono hB.size)
  clear hB2
  go_wp2_with fail
  go_loopw [7, 8, 33] (fun v7 v8 vi wr => ∃ (j b : Nat) (ps : List Pr) (A : Option Addr) (c : Nat), j ≤ len1 ∧ j ≤ 50 ∧ vi = .int .i64 j ∧ v7 = .pointer (some ⟨b, 0, none⟩) ∧ v8 = .slice A ps.length c ∧ Rd wr A ps ∧ RisesL ps ∧ ps.length ≤ j ∧ (∀ x ∈ ps, x.1.size ≤ 40) ∧ TP k0 k1 m w.heap.size wr b ps ∧ Blk wr N3 26 #[.int .u64 k0, .int .u64 k1, .int .u64 m] ∧ Below w.heap.size w wr) (fun v7 v8 vi wr => len1 - (intOf vi).toNat)
  case atStart => exact ⟨0, b, [], none, 0, by omega, by omega, rfl, rfl, rfl, fun _ _ h => by simp at h, rises_nil, by simp, by simp, hT, hH, hB⟩
  case round =>
    clear hT hH hB
    obtain ⟨j, b, ps, A, c, hj, hj50, rfl, rfl, rfl, hR, hr, hpl, hz, hT, hH, hB⟩ := hrel
    by_cases hlt : j < len1
    · obtain ⟨x, dd, ka, q, ow, rfl, hdd, hka, c0, c1, c2, c3, c4⟩ := HA.out.at hB j hlt
      have L1 : (j : Int) < (len1 : Int) := by omega
      have L2 : IntKind.i64.wrap ((j : Int) + 1) = ((j + 1 : Nat) : Int) := by rw [IntWalk.i64_in _ (by unfold maxLen at hl1; omega)]; omega
      go_upto_region 8 with (fail)
      have hBl := (Below.refl _ wr).alloc (Nat.le_refl _) (.cells #[.int .u8 dd, .string q.1, .string q.2, .int .u8 ka, .bool ow] 36)
      have hAct := Blk.new wr 36 #[.int .u8 dd, .string q.1, .string q.2, .int .u8 ka, .bool ow]
      have hB := hB.trans (hBl.mono hB.size)
      have hR := hR.below hBl
      have hT := hT.below hBl
      have hH := hH.below hBl
      clear c0 c1 c2 c3 c4 hBl
      generalize wr.alloc (.cells #[.int .u8 dd, .string q.1, .string q.2, .int .u8 ka, .bool ow] 36) = W1 at *
      generalize wr.heap.size = N10 at *
      by_cases h50 : j < 50
      · have G : ¬ ((50 : Int) ≤ (j : Int)) := by omega
        have a1 : W1.cell? ⟨N10, 1, none⟩ = some (.string q.1) := hAct.cell 1
        have a2 : W1.cell? ⟨N10, 2, none⟩ = some (.string q.2) := hAct.cell 2
        go_wp2_with fail
        refine (few_any q W1).mono ?_
        rintro e w3 ⟨rfl, hB3⟩
        have hp1 : (few40 q).1.size ≤ 40 := cut40_size q.1
        obtain ⟨p, hp⟩ : ∃ p, p = few40 q := ⟨_, rfl⟩
        rw [← hp] at hp1 ⊢
        have hp1000 : p.1.size ≤ 1000 := by omega
        clear hp a1 a2
        go_upto_region 10 with (fail)
        have hBl := hB3.alloc hB3.size (.cells #[.string p.1, .string p.2] 34)
        have hP := Blk.new w3 34 #[.string p.1, .string p.2]
        have hB := hB.trans (hBl.mono hB.size)
        have hR := hR.below hBl
        have hT := hT.below hBl
        have hH := hH.below hBl
        have hAct := hAct.below hBl
        clear hBl hB3
        generalize w3.alloc (.cells #[.string p.1, .string p.2] 34) = W4 at *
        generalize w3.heap.size = N11 at *
        have s0 : W4.cell? ⟨N3, 0, none⟩ = some (.int .u64 k0) := hH.cell 0
        have s1 : W4.cell? ⟨N3, 1, none⟩ = some (.int .u64 k1) := hH.cell 1
        have s2 : W4.cell? ⟨N3, 2, none⟩ = some (.int .u64 m) := hH.cell 2
        have p0 : W4.cell? ⟨N11, 0, none⟩ = some (.string p.1) := hP.cell 0
        have p1 : W4.cell? ⟨N11, 1, none⟩ = some (.string p.2) := hP.cell 1
        have d0 : W4.cell? ⟨N10, 0, none⟩ = some (.int .u8 dd) := hAct.cell 0

        have kg := refGet_any A c ps p.1 W4 hR hr (by omega) (sized_mem fun x hx => Nat.le_trans (hz x hx) (by unfold maxLen; omega)) (by unfold maxLen; omega)
        have kd := fun w' (hw : w.heap.size ≤ w'.heap.size) (hT : TP k0 k1 m w.heap.size w' b ps) => drop_plain (k := p.1) h0 h1 hp1000 hw hT hr (by omega)
        have kp := fun w' (hw : w.heap.size ≤ w'.heap.size) (hT : TP k0 k1 m w.heap.size w' b ps) => put_plain p h0 h1 hp1000 hw hT hr (by omega) (fun x hx => Nat.le_trans (hz x hx) (by omega))
        have ns := fun w => neq_node_same b w
        unfold at0 at ns
        by_cases h3 : dd % 4 = 3
        · have D3 := (dmod hdd).1 h3
          clear kp
          cases hg : getK ps p.1 with
          | none =>
            rw [hg] at kg kd
            simp only [Option.isSome_none, Option.getD_none] at kg kd
            go_wp2_with fail
            refine (kg).mono ?_
            rintro e w5 ⟨rfl, hB5⟩
            simp only [Option.isSome_none, Option.isSome_some, Option.getD_none, Option.getD_some]
            have hB := hB.trans (hB5.mono hB.size)
            have hT := hT.below hB5
            have hR := hR.below hB5
            have hH := hH.below hB5
            have hP := hP.below hB5
            have hAct := hAct.below hB5
            clear kg s0 s1 s2 p0 p1 d0 hB5
            have s0 : w5.cell? ⟨N3, 0, none⟩ = some (.int .u64 k0) := hH.cell 0
            have s1 : w5.cell? ⟨N3, 1, none⟩ = some (.int .u64 k1) := hH.cell 1
            have s2 : w5.cell? ⟨N3, 2, none⟩ = some (.int .u64 m) := hH.cell 2
            have p0 : w5.cell? ⟨N11, 0, none⟩ = some (.string p.1) := hP.cell 0
            have p1 : w5.cell? ⟨N11, 1, none⟩ = some (.string p.2) := hP.cell 1
            have d0 : w5.cell? ⟨N10, 0, none⟩ = some (.int .u8 dd) := hAct.cell 0

            go_wp2_with fail
            refine (kd _ hB.size hT).mono ?_
            rintro e wd ⟨bq, rfl, hT8, hBd, hsame⟩
            have hB := hB.trans (hBd.mono hB.size)
            have hT := hT.below hBd
            have hR := hR.below hBd
            have hH := hH.below hBd
            have hP := hP.below hBd
            clear s0 s1 s2 p0 p1 d0 hBd
            have s0 : wd.cell? ⟨N3, 0, none⟩ = some (.int .u64 k0) := hH.cell 0
            have s1 : wd.cell? ⟨N3, 1, none⟩ = some (.int .u64 k1) := hH.cell 1
            have s2 : wd.cell? ⟨N3, 2, none⟩ = some (.int .u64 m) := hH.cell 2
            have p0 : wd.cell? ⟨N11, 0, none⟩ = some (.string p.1) := hP.cell 0
            have p1 : wd.cell? ⟨N11, 1, none⟩ = some (.string p.2) := hP.cell 1
            obtain rfl := hsame (by first | trivial | rfl)
            clear hsame
            clear kd
            go_wp2_with fail
            refine (refDrop_any A c ps p.1 wd hR (by omega)).mono ?_
            rintro e we ⟨v8, rfl, hO8, hBv⟩
            obtain ⟨A8, c8, rfl, hR8⟩ := hO8.rd
            clear hO8
            have hB := hB.trans (hBv.mono hB.size)
            have hT8 := hT8.below hBv
            have hH := hH.below hBv
            have hP := hP.below hBv
            clear s0 s1 s2 p0 p1 hBv
            have s0 : we.cell? ⟨N3, 0, none⟩ = some (.int .u64 k0) := hH.cell 0
            have s1 : we.cell? ⟨N3, 1, none⟩ = some (.int .u64 k1) := hH.cell 1
            have s2 : we.cell? ⟨N3, 2, none⟩ = some (.int .u64 m) := hH.cell 2
            have p0 : we.cell? ⟨N11, 0, none⟩ = some (.string p.1) := hP.cell 0
            have p1 : we.cell? ⟨N11, 1, none⟩ = some (.string p.2) := hP.cell 1
            obtain ⟨Q, hQ⟩ : ∃ Q, Q = dropK ps p.1 := ⟨_, rfl⟩
            have hrQ : RisesL Q := by rw [hQ]; exact drop_rises _ _ hr
            have hlQ : Q.length ≤ j + 1 := by rw [hQ]; exact Nat.le_trans (List.length_filter_le _ _) (by omega)
            have hzQ : ∀ x ∈ Q, x.1.size ≤ 40 := fun x hx => hz x (by rw [hQ] at hx; exact ((drop_mem _ _ _).1 hx).1)
            rw [← hQ] at hT8 hR8 ⊢
            clear hQ hT hR
            go_wp2_with fail
            refine (get_plain (k := p.1) h0 h1 hp1000 hT8 (by omega)).mono ?_
            rintro e wa ⟨rfl, hBa⟩
            have hB := hB.trans (hBa.mono hB.size)
            have hT8 := hT8.below hBa
            have hR8 := hR8.below hBa
            have hH := hH.below hBa
            have hP := hP.below hBa
            clear s0 s1 s2 p0 p1 hBa
            have s0 : wa.cell? ⟨N3, 0, none⟩ = some (.int .u64 k0) := hH.cell 0
            have s1 : wa.cell? ⟨N3, 1, none⟩ = some (.int .u64 k1) := hH.cell 1
            have s2 : wa.cell? ⟨N3, 2, none⟩ = some (.int .u64 m) := hH.cell 2
            have p0 : wa.cell? ⟨N11, 0, none⟩ = some (.string p.1) := hP.cell 0
            have p1 : wa.cell? ⟨N11, 1, none⟩ = some (.string p.2) := hP.cell 1
            go_wp2_with fail
            refine (refGet_any A8 c8 Q p.1 wa hR8 hrQ (by omega) (sized_mem fun x hx => Nat.le_trans (hzQ x hx) (by unfold maxLen; omega)) (by unfold maxLen; omega)).mono ?_
            rintro e wb ⟨rfl, hBb⟩
            have hB := hB.trans (hBb.mono hB.size)
            have hT8 := hT8.below hBb
            have hR8 := hR8.below hBb
            have hH := hH.below hBb
            have hP := hP.below hBb
            clear s0 s1 s2 p0 p1 hBb
            have s0 : wb.cell? ⟨N3, 0, none⟩ = some (.int .u64 k0) := hH.cell 0
            have s1 : wb.cell? ⟨N3, 1, none⟩ = some (.int .u64 k1) := hH.cell 1
            have s2 : wb.cell? ⟨N3, 2, none⟩ = some (.int .u64 m) := hH.cell 2
            have p0 : wb.cell? ⟨N11, 0, none⟩ = some (.string p.1) := hP.cell 0
            have p1 : wb.cell? ⟨N11, 1, none⟩ = some (.string p.2) := hP.cell 1
            clear s0 s1 s2 p0 p1 hP
            generalize getK Q p.1 = gq at *
            cases gq
            all_goals
              simp only [Option.isSome_none, Option.isSome_some, Option.getD_none, Option.getD_some]
              go_wp2_with fail
              exact ⟨⟨j + 1, bq, Q, A8, c8, by omega, by omega, by go_num, rfl, rfl, hR8, hrQ, by omega, hzQ, hT8, hH, hB⟩, by simp [intOf]; omega⟩

          | some vv =>
            rw [hg] at kg kd
            simp only [Option.isSome_some, Option.getD_some] at kg kd
            go_wp2_with fail
            refine (kg).mono ?_
            rintro e w5 ⟨rfl, hB5⟩
            simp only [Option.isSome_none, Option.isSome_some, Option.getD_none, Option.getD_some]
            have hB := hB.trans (hB5.mono hB.size)
            have hT := hT.below hB5
            have hR := hR.below hB5
            have hH := hH.below hB5
            have hP := hP.below hB5
            have hAct := hAct.below hB5
            clear kg s0 s1 s2 p0 p1 d0 hB5
            have s0 : w5.cell? ⟨N3, 0, none⟩ = some (.int .u64 k0) := hH.cell 0
            have s1 : w5.cell? ⟨N3, 1, none⟩ = some (.int .u64 k1) := hH.cell 1
            have s2 : w5.cell? ⟨N3, 2, none⟩ = some (.int .u64 m) := hH.cell 2
            have p0 : w5.cell? ⟨N11, 0, none⟩ = some (.string p.1) := hP.cell 0
            have p1 : w5.cell? ⟨N11, 1, none⟩ = some (.string p.2) := hP.cell 1
            have d0 : w5.cell? ⟨N10, 0, none⟩ = some (.int .u8 dd) := hAct.cell 0

            go_wp2_with fail
            refine (kd _ hB.size hT).mono ?_
            rintro e wd ⟨bq, rfl, hT8, hBd, hsame⟩
            have hB := hB.trans (hBd.mono hB.size)
            have hT := hT.below hBd
            have hR := hR.below hBd
            have hH := hH.below hBd
            have hP := hP.below hBd
            clear s0 s1 s2 p0 p1 d0 hBd
            have s0 : wd.cell? ⟨N3, 0, none⟩ = some (.int .u64 k0) := hH.cell 0
            have s1 : wd.cell? ⟨N3, 1, none⟩ = some (.int .u64 k1) := hH.cell 1
            have s2 : wd.cell? ⟨N3, 2, none⟩ = some (.int .u64 m) := hH.cell 2
            have p0 : wd.cell? ⟨N11, 0, none⟩ = some (.string p.1) := hP.cell 0
            have p1 : wd.cell? ⟨N11, 1, none⟩ = some (.string p.2) := hP.cell 1
            clear hsame
            clear kd
            go_wp2_with fail
            refine (refDrop_any A c ps p.1 wd hR (by omega)).mono ?_
            rintro e we ⟨v8, rfl, hO8, hBv⟩
            obtain ⟨A8, c8, rfl, hR8⟩ := hO8.rd
            clear hO8
            have hB := hB.trans (hBv.mono hB.size)
            have hT8 := hT8.below hBv
            have hH := hH.below hBv
            have hP := hP.below hBv
            clear s0 s1 s2 p0 p1 hBv
            have s0 : we.cell? ⟨N3, 0, none⟩ = some (.int .u64 k0) := hH.cell 0
            have s1 : we.cell? ⟨N3, 1, none⟩ = some (.int .u64 k1) := hH.cell 1
            have s2 : we.cell? ⟨N3, 2, none⟩ = some (.int .u64 m) := hH.cell 2
            have p0 : we.cell? ⟨N11, 0, none⟩ = some (.string p.1) := hP.cell 0
            have p1 : we.cell? ⟨N11, 1, none⟩ = some (.string p.2) := hP.cell 1
            obtain ⟨Q, hQ⟩ : ∃ Q, Q = dropK ps p.1 := ⟨_, rfl⟩
            have hrQ : RisesL Q := by rw [hQ]; exact drop_rises _ _ hr
            have hlQ : Q.length ≤ j + 1 := by rw [hQ]; exact Nat.le_trans (List.length_filter_le _ _) (by omega)
            have hzQ : ∀ x ∈ Q, x.1.size ≤ 40 := fun x hx => hz x (by rw [hQ] at hx; exact ((drop_mem _ _ _).1 hx).1)
            rw [← hQ] at hT8 hR8 ⊢
            clear hQ hT hR
            go_wp2_with fail
            refine (get_plain (k := p.1) h0 h1 hp1000 hT8 (by omega)).mono ?_
            rintro e wa ⟨rfl, hBa⟩
            have hB := hB.trans (hBa.mono hB.size)
            have hT8 := hT8.below hBa
            have hR8 := hR8.below hBa
            have hH := hH.below hBa
            have hP := hP.below hBa
            clear s0 s1 s2 p0 p1 hBa
            have s0 : wa.cell? ⟨N3, 0, none⟩ = some (.int .u64 k0) := hH.cell 0
            have s1 : wa.cell? ⟨N3, 1, none⟩ = some (.int .u64 k1) := hH.cell 1
            have s2 : wa.cell? ⟨N3, 2, none⟩ = some (.int .u64 m) := hH.cell 2
            have p0 : wa.cell? ⟨N11, 0, none⟩ = some (.string p.1) := hP.cell 0
            have p1 : wa.cell? ⟨N11, 1, none⟩ = some (.string p.2) := hP.cell 1
            go_wp2_with fail
            refine (refGet_any A8 c8 Q p.1 wa hR8 hrQ (by omega) (sized_mem fun x hx => Nat.le_trans (hzQ x hx) (by unfold maxLen; omega)) (by unfold maxLen; omega)).mono ?_
            rintro e wb ⟨rfl, hBb⟩
            have hB := hB.trans (hBb.mono hB.size)
            have hT8 := hT8.below hBb
            have hR8 := hR8.below hBb
            have hH := hH.below hBb
            have hP := hP.below hBb
            clear s0 s1 s2 p0 p1 hBb
            have s0 : wb.cell? ⟨N3, 0, none⟩ = some (.int .u64 k0) := hH.cell 0
            have s1 : wb.cell? ⟨N3, 1, none⟩ = some (.int .u64 k1) := hH.cell 1
            have s2 : wb.cell? ⟨N3, 2, none⟩ = some (.int .u64 m) := hH.cell 2
            have p0 : wb.cell? ⟨N11, 0, none⟩ = some (.string p.1) := hP.cell 0
            have p1 : wb.cell? ⟨N11, 1, none⟩ = some (.string p.2) := hP.cell 1
            clear s0 s1 s2 p0 p1 hP
            generalize getK Q p.1 = gq at *
            cases gq
            all_goals
              simp only [Option.isSome_none, Option.isSome_some, Option.getD_none, Option.getD_some]
              go_wp2_with fail
              exact ⟨⟨j + 1, bq, Q, A8, c8, by omega, by omega, by go_num, rfl, rfl, hR8, hrQ, by omega, hzQ, hT8, hH, hB⟩, by simp [intOf]; omega⟩

        · have D3 := (dmod hdd).2 h3
          clear kd
          cases hg : getK ps p.1 with
          | none =>
            rw [hg] at kg kp
            simp only [Option.isSome_none, Option.getD_none, Option.isNone_none] at kg kp
            go_wp2_with fail
            refine (kg).mono ?_
            rintro e w5 ⟨rfl, hB5⟩
            simp only [Option.isSome_none, Option.isSome_some, Option.getD_none, Option.getD_some]
            have hB := hB.trans (hB5.mono hB.size)
            have hT := hT.below hB5
            have hR := hR.below hB5
            have hH := hH.below hB5
            have hP := hP.below hB5
            have hAct := hAct.below hB5
            clear kg s0 s1 s2 p0 p1 d0 hB5
            have s0 : w5.cell? ⟨N3, 0, none⟩ = some (.int .u64 k0) := hH.cell 0
            have s1 : w5.cell? ⟨N3, 1, none⟩ = some (.int .u64 k1) := hH.cell 1
            have s2 : w5.cell? ⟨N3, 2, none⟩ = some (.int .u64 m) := hH.cell 2
            have p0 : w5.cell? ⟨N11, 0, none⟩ = some (.string p.1) := hP.cell 0
            have p1 : w5.cell? ⟨N11, 1, none⟩ = some (.string p.2) := hP.cell 1
            have d0 : w5.cell? ⟨N10, 0, none⟩ = some (.int .u8 dd) := hAct.cell 0

            go_wp2_with fail
            refine (kp _ hB.size hT).mono ?_
            rintro e wd ⟨bq, rfl, hT8, hBd, hsame⟩
            have hB := hB.trans (hBd.mono hB.size)
            have hT := hT.below hBd
            have hR := hR.below hBd
            have hH := hH.below hBd
            have hP := hP.below hBd
            clear s0 s1 s2 p0 p1 d0 hBd
            have s0 : wd.cell? ⟨N3, 0, none⟩ = some (.int .u64 k0) := hH.cell 0
            have s1 : wd.cell? ⟨N3, 1, none⟩ = some (.int .u64 k1) := hH.cell 1
            have s2 : wd.cell? ⟨N3, 2, none⟩ = some (.int .u64 m) := hH.cell 2
            have p0 : wd.cell? ⟨N11, 0, none⟩ = some (.string p.1) := hP.cell 0
            have p1 : wd.cell? ⟨N11, 1, none⟩ = some (.string p.2) := hP.cell 1
            clear hsame
            clear kp
            go_wp2_with fail
            refine (refPut_any A c ps p wd hR (by omega) (sized_mem fun x hx => Nat.le_trans (hz x hx) (by unfold maxLen; omega)) (by unfold maxLen; omega)).mono ?_
            rintro e we ⟨v8, rfl, hO8, hBv⟩
            obtain ⟨A8, c8, rfl, hR8⟩ := hO8.rd
            clear hO8
            have hB := hB.trans (hBv.mono hB.size)
            have hT8 := hT8.below hBv
            have hH := hH.below hBv
            have hP := hP.below hBv
            clear s0 s1 s2 p0 p1 hBv
            have s0 : we.cell? ⟨N3, 0, none⟩ = some (.int .u64 k0) := hH.cell 0
            have s1 : we.cell? ⟨N3, 1, none⟩ = some (.int .u64 k1) := hH.cell 1
            have s2 : we.cell? ⟨N3, 2, none⟩ = some (.int .u64 m) := hH.cell 2
            have p0 : we.cell? ⟨N11, 0, none⟩ = some (.string p.1) := hP.cell 0
            have p1 : we.cell? ⟨N11, 1, none⟩ = some (.string p.2) := hP.cell 1
            obtain ⟨Q, hQ⟩ : ∃ Q, Q = putK ps p := ⟨_, rfl⟩
            have hrQ : RisesL Q := by rw [hQ]; exact put_rises _ hr
            have hlQ : Q.length ≤ j + 1 := by rw [hQ]; exact Nat.le_trans (put_len p) (by omega)
            have hzQ : ∀ x ∈ Q, x.1.size ≤ 40 := fun x hx => by
              rw [hQ] at hx
              rcases put_sets.1 hx with rfl | ⟨h, _⟩
              · exact hp1
              · exact hz x h
            rw [← hQ] at hT8 hR8 ⊢
            clear hQ hT hR
            go_wp2_with fail
            refine (get_plain (k := p.1) h0 h1 hp1000 hT8 (by omega)).mono ?_
            rintro e wa ⟨rfl, hBa⟩
            have hB := hB.trans (hBa.mono hB.size)
            have hT8 := hT8.below hBa
            have hR8 := hR8.below hBa
            have hH := hH.below hBa
            have hP := hP.below hBa
            clear s0 s1 s2 p0 p1 hBa
            have s0 : wa.cell? ⟨N3, 0, none⟩ = some (.int .u64 k0) := hH.cell 0
            have s1 : wa.cell? ⟨N3, 1, none⟩ = some (.int .u64 k1) := hH.cell 1
            have s2 : wa.cell? ⟨N3, 2, none⟩ = some (.int .u64 m) := hH.cell 2
            have p0 : wa.cell? ⟨N11, 0, none⟩ = some (.string p.1) := hP.cell 0
            have p1 : wa.cell? ⟨N11, 1, none⟩ = some (.string p.2) := hP.cell 1
            go_wp2_with fail
            refine (refGet_any A8 c8 Q p.1 wa hR8 hrQ (by omega) (sized_mem fun x hx => Nat.le_trans (hzQ x hx) (by unfold maxLen; omega)) (by unfold maxLen; omega)).mono ?_
            rintro e wb ⟨rfl, hBb⟩
            have hB := hB.trans (hBb.mono hB.size)
            have hT8 := hT8.below hBb
            have hR8 := hR8.below hBb
            have hH := hH.below hBb
            have hP := hP.below hBb
            clear s0 s1 s2 p0 p1 hBb
            have s0 : wb.cell? ⟨N3, 0, none⟩ = some (.int .u64 k0) := hH.cell 0
            have s1 : wb.cell? ⟨N3, 1, none⟩ = some (.int .u64 k1) := hH.cell 1
            have s2 : wb.cell? ⟨N3, 2, none⟩ = some (.int .u64 m) := hH.cell 2
            have p0 : wb.cell? ⟨N11, 0, none⟩ = some (.string p.1) := hP.cell 0
            have p1 : wb.cell? ⟨N11, 1, none⟩ = some (.string p.2) := hP.cell 1
            clear s0 s1 s2 p0 p1 hP
            generalize getK Q p.1 = gq at *
            cases gq
            all_goals
              simp only [Option.isSome_none, Option.isSome_some, Option.getD_none, Option.getD_some]
              go_wp2_with fail
              exact ⟨⟨j + 1, bq, Q, A8, c8, by omega, by omega, by go_num, rfl, rfl, hR8, hrQ, by omega, hzQ, hT8, hH, hB⟩, by simp [intOf]; omega⟩

          | some vv =>
            by_cases hv : vv = p.2
            · subst hv
              rw [hg] at kg kp
              simp only [Option.isSome_some, Option.getD_some, Option.isNone_some] at kg kp
              go_wp2_with fail
              refine (kg).mono ?_
              rintro e w5 ⟨rfl, hB5⟩
              simp only [Option.isSome_none, Option.isSome_some, Option.getD_none, Option.getD_some]
              have hB := hB.trans (hB5.mono hB.size)
              have hT := hT.below hB5
              have hR := hR.below hB5
              have hH := hH.below hB5
              have hP := hP.below hB5
              have hAct := hAct.below hB5
              clear kg s0 s1 s2 p0 p1 d0 hB5
              have s0 : w5.cell? ⟨N3, 0, none⟩ = some (.int .u64 k0) := hH.cell 0
              have s1 : w5.cell? ⟨N3, 1, none⟩ = some (.int .u64 k1) := hH.cell 1
              have s2 : w5.cell? ⟨N3, 2, none⟩ = some (.int .u64 m) := hH.cell 2
              have p0 : w5.cell? ⟨N11, 0, none⟩ = some (.string p.1) := hP.cell 0
              have p1 : w5.cell? ⟨N11, 1, none⟩ = some (.string p.2) := hP.cell 1
              have d0 : w5.cell? ⟨N10, 0, none⟩ = some (.int .u8 dd) := hAct.cell 0

              go_wp2_with fail
              refine (kp _ hB.size hT).mono ?_
              rintro e wd ⟨bq, rfl, hT8, hBd, hsame⟩
              have hB := hB.trans (hBd.mono hB.size)
              have hT := hT.below hBd
              have hR := hR.below hBd
              have hH := hH.below hBd
              have hP := hP.below hBd
              clear s0 s1 s2 p0 p1 d0 hBd
              have s0 : wd.cell? ⟨N3, 0, none⟩ = some (.int .u64 k0) := hH.cell 0
              have s1 : wd.cell? ⟨N3, 1, none⟩ = some (.int .u64 k1) := hH.cell 1
              have s2 : wd.cell? ⟨N3, 2, none⟩ = some (.int .u64 m) := hH.cell 2
              have p0 : wd.cell? ⟨N11, 0, none⟩ = some (.string p.1) := hP.cell 0
              have p1 : wd.cell? ⟨N11, 1, none⟩ = some (.string p.2) := hP.cell 1
              obtain rfl := hsame (by first | trivial | rfl)
              clear hsame
              clear kp
              go_wp2_with fail
              refine (refPut_any A c ps p wd hR (by omega) (sized_mem fun x hx => Nat.le_trans (hz x hx) (by unfold maxLen; omega)) (by unfold maxLen; omega)).mono ?_
              rintro e we ⟨v8, rfl, hO8, hBv⟩
              obtain ⟨A8, c8, rfl, hR8⟩ := hO8.rd
              clear hO8
              have hB := hB.trans (hBv.mono hB.size)
              have hT8 := hT8.below hBv
              have hH := hH.below hBv
              have hP := hP.below hBv
              clear s0 s1 s2 p0 p1 hBv
              have s0 : we.cell? ⟨N3, 0, none⟩ = some (.int .u64 k0) := hH.cell 0
              have s1 : we.cell? ⟨N3, 1, none⟩ = some (.int .u64 k1) := hH.cell 1
              have s2 : we.cell? ⟨N3, 2, none⟩ = some (.int .u64 m) := hH.cell 2
              have p0 : we.cell? ⟨N11, 0, none⟩ = some (.string p.1) := hP.cell 0
              have p1 : we.cell? ⟨N11, 1, none⟩ = some (.string p.2) := hP.cell 1
              obtain ⟨Q, hQ⟩ : ∃ Q, Q = putK ps p := ⟨_, rfl⟩
              have hrQ : RisesL Q := by rw [hQ]; exact put_rises _ hr
              have hlQ : Q.length ≤ j + 1 := by rw [hQ]; exact Nat.le_trans (put_len p) (by omega)
              have hzQ : ∀ x ∈ Q, x.1.size ≤ 40 := fun x hx => by
                rw [hQ] at hx
                rcases put_sets.1 hx with rfl | ⟨h, _⟩
                · exact hp1
                · exact hz x h
              rw [← hQ] at hT8 hR8 ⊢
              clear hQ hT hR
              go_wp2_with fail
              refine (get_plain (k := p.1) h0 h1 hp1000 hT8 (by omega)).mono ?_
              rintro e wa ⟨rfl, hBa⟩
              have hB := hB.trans (hBa.mono hB.size)
              have hT8 := hT8.below hBa
              have hR8 := hR8.below hBa
              have hH := hH.below hBa
              have hP := hP.below hBa
              clear s0 s1 s2 p0 p1 hBa
              have s0 : wa.cell? ⟨N3, 0, none⟩ = some (.int .u64 k0) := hH.cell 0
              have s1 : wa.cell? ⟨N3, 1, none⟩ = some (.int .u64 k1) := hH.cell 1
              have s2 : wa.cell? ⟨N3, 2, none⟩ = some (.int .u64 m) := hH.cell 2
              have p0 : wa.cell? ⟨N11, 0, none⟩ = some (.string p.1) := hP.cell 0
              have p1 : wa.cell? ⟨N11, 1, none⟩ = some (.string p.2) := hP.cell 1
              go_wp2_with fail
              refine (refGet_any A8 c8 Q p.1 wa hR8 hrQ (by omega) (sized_mem fun x hx => Nat.le_trans (hzQ x hx) (by unfold maxLen; omega)) (by unfold maxLen; omega)).mono ?_
              rintro e wb ⟨rfl, hBb⟩
              have hB := hB.trans (hBb.mono hB.size)
              have hT8 := hT8.below hBb
              have hR8 := hR8.below hBb
              have hH := hH.below hBb
              have hP := hP.below hBb
              clear s0 s1 s2 p0 p1 hBb
              have s0 : wb.cell? ⟨N3, 0, none⟩ = some (.int .u64 k0) := hH.cell 0
              have s1 : wb.cell? ⟨N3, 1, none⟩ = some (.int .u64 k1) := hH.cell 1
              have s2 : wb.cell? ⟨N3, 2, none⟩ = some (.int .u64 m) := hH.cell 2
              have p0 : wb.cell? ⟨N11, 0, none⟩ = some (.string p.1) := hP.cell 0
              have p1 : wb.cell? ⟨N11, 1, none⟩ = some (.string p.2) := hP.cell 1
              clear s0 s1 s2 p0 p1 hP
              generalize getK Q p.1 = gq at *
              cases gq
              all_goals
                simp only [Option.isSome_none, Option.isSome_some, Option.getD_none, Option.getD_some]
                go_wp2_with fail
                exact ⟨⟨j + 1, bq, Q, A8, c8, by omega, by omega, by go_num, rfl, rfl, hR8, hrQ, by omega, hzQ, hT8, hH, hB⟩, by simp [intOf]; omega⟩

            · rw [hg] at kg kp
              have hvb := bytes_ne hv
              simp only [Option.isSome_some, Option.getD_some, Option.isNone_some] at kg kp
              go_wp2_with fail
              refine (kg).mono ?_
              rintro e w5 ⟨rfl, hB5⟩
              simp only [Option.isSome_none, Option.isSome_some, Option.getD_none, Option.getD_some]
              have hB := hB.trans (hB5.mono hB.size)
              have hT := hT.below hB5
              have hR := hR.below hB5
              have hH := hH.below hB5
              have hP := hP.below hB5
              have hAct := hAct.below hB5
              clear kg s0 s1 s2 p0 p1 d0 hB5
              have s0 : w5.cell? ⟨N3, 0, none⟩ = some (.int .u64 k0) := hH.cell 0
              have s1 : w5.cell? ⟨N3, 1, none⟩ = some (.int .u64 k1) := hH.cell 1
              have s2 : w5.cell? ⟨N3, 2, none⟩ = some (.int .u64 m) := hH.cell 2
              have p0 : w5.cell? ⟨N11, 0, none⟩ = some (.string p.1) := hP.cell 0
              have p1 : w5.cell? ⟨N11, 1, none⟩ = some (.string p.2) := hP.cell 1
              have d0 : w5.cell? ⟨N10, 0, none⟩ = some (.int .u8 dd) := hAct.cell 0

              go_wp2_with fail
              refine (kp _ hB.size hT).mono ?_
              rintro e wd ⟨bq, rfl, hT8, hBd, hsame⟩
              have hB := hB.trans (hBd.mono hB.size)
              have hT := hT.below hBd
              have hR := hR.below hBd
              have hH := hH.below hBd
              have hP := hP.below hBd
              clear s0 s1 s2 p0 p1 d0 hBd
              have s0 : wd.cell? ⟨N3, 0, none⟩ = some (.int .u64 k0) := hH.cell 0
              have s1 : wd.cell? ⟨N3, 1, none⟩ = some (.int .u64 k1) := hH.cell 1
              have s2 : wd.cell? ⟨N3, 2, none⟩ = some (.int .u64 m) := hH.cell 2
              have p0 : wd.cell? ⟨N11, 0, none⟩ = some (.string p.1) := hP.cell 0
              have p1 : wd.cell? ⟨N11, 1, none⟩ = some (.string p.2) := hP.cell 1
              clear hsame
              clear kp
              go_wp2_with fail
              refine (refPut_any A c ps p wd hR (by omega) (sized_mem fun x hx => Nat.le_trans (hz x hx) (by unfold maxLen; omega)) (by unfold maxLen; omega)).mono ?_
              rintro e we ⟨v8, rfl, hO8, hBv⟩
              obtain ⟨A8, c8, rfl, hR8⟩ := hO8.rd
              clear hO8
              have hB := hB.trans (hBv.mono hB.size)
              have hT8 := hT8.below hBv
              have hH := hH.below hBv
              have hP := hP.below hBv
              clear s0 s1 s2 p0 p1 hBv
              have s0 : we.cell? ⟨N3, 0, none⟩ = some (.int .u64 k0) := hH.cell 0
              have s1 : we.cell? ⟨N3, 1, none⟩ = some (.int .u64 k1) := hH.cell 1
              have s2 : we.cell? ⟨N3, 2, none⟩ = some (.int .u64 m) := hH.cell 2
              have p0 : we.cell? ⟨N11, 0, none⟩ = some (.string p.1) := hP.cell 0
              have p1 : we.cell? ⟨N11, 1, none⟩ = some (.string p.2) := hP.cell 1
              obtain ⟨Q, hQ⟩ : ∃ Q, Q = putK ps p := ⟨_, rfl⟩
              have hrQ : RisesL Q := by rw [hQ]; exact put_rises _ hr
              have hlQ : Q.length ≤ j + 1 := by rw [hQ]; exact Nat.le_trans (put_len p) (by omega)
              have hzQ : ∀ x ∈ Q, x.1.size ≤ 40 := fun x hx => by
                rw [hQ] at hx
                rcases put_sets.1 hx with rfl | ⟨h, _⟩
                · exact hp1
                · exact hz x h
              rw [← hQ] at hT8 hR8 ⊢
              clear hQ hT hR
              go_wp2_with fail
              refine (get_plain (k := p.1) h0 h1 hp1000 hT8 (by omega)).mono ?_
              rintro e wa ⟨rfl, hBa⟩
              have hB := hB.trans (hBa.mono hB.size)
              have hT8 := hT8.below hBa
              have hR8 := hR8.below hBa
              have hH := hH.below hBa
              have hP := hP.below hBa
              clear s0 s1 s2 p0 p1 hBa
              have s0 : wa.cell? ⟨N3, 0, none⟩ = some (.int .u64 k0) := hH.cell 0
              have s1 : wa.cell? ⟨N3, 1, none⟩ = some (.int .u64 k1) := hH.cell 1
              have s2 : wa.cell? ⟨N3, 2, none⟩ = some (.int .u64 m) := hH.cell 2
              have p0 : wa.cell? ⟨N11, 0, none⟩ = some (.string p.1) := hP.cell 0
              have p1 : wa.cell? ⟨N11, 1, none⟩ = some (.string p.2) := hP.cell 1
              go_wp2_with fail
              refine (refGet_any A8 c8 Q p.1 wa hR8 hrQ (by omega) (sized_mem fun x hx => Nat.le_trans (hzQ x hx) (by unfold maxLen; omega)) (by unfold maxLen; omega)).mono ?_
              rintro e wb ⟨rfl, hBb⟩
              have hB := hB.trans (hBb.mono hB.size)
              have hT8 := hT8.below hBb
              have hR8 := hR8.below hBb
              have hH := hH.below hBb
              have hP := hP.below hBb
              clear s0 s1 s2 p0 p1 hBb
              have s0 : wb.cell? ⟨N3, 0, none⟩ = some (.int .u64 k0) := hH.cell 0
              have s1 : wb.cell? ⟨N3, 1, none⟩ = some (.int .u64 k1) := hH.cell 1
              have s2 : wb.cell? ⟨N3, 2, none⟩ = some (.int .u64 m) := hH.cell 2
              have p0 : wb.cell? ⟨N11, 0, none⟩ = some (.string p.1) := hP.cell 0
              have p1 : wb.cell? ⟨N11, 1, none⟩ = some (.string p.2) := hP.cell 1
              clear s0 s1 s2 p0 p1 hP
              generalize getK Q p.1 = gq at *
              cases gq
              all_goals
                simp only [Option.isSome_none, Option.isSome_some, Option.getD_none, Option.getD_some]
                go_wp2_with fail
                exact ⟨⟨j + 1, bq, Q, A8, c8, by omega, by omega, by go_num, rfl, rfl, hR8, hrQ, by omega, hzQ, hT8, hH, hB⟩, by simp [intOf]; omega⟩

      · have G : (50 : Int) ≤ (j : Int) := by omega
        have HF := Lib.hid (plays25_any (fun e w' => e = .returned (.bool true) ∧ Below w.heap.size w w') k0 k1 m a2 len2 cap2 ss w W1 h0 h1 HS.out N3 b ps A c w.heap.size hB hR hr (by omega) hz hT hH (fun w' h => ⟨rfl, h⟩))
        clear hR hT hH hAct HA HS
        repeat (first | exact HF.out _ _ _ _ _ _ _ _ _ _ _ _ _ _ _ _ _ _ _ _ _ _ _ _ _ _ _ _ _ _ _ _ _ _ _ _ _ _ _ _ _ _ _ _ _ _ _ _ _ _ _ _ _ _ _ _ _ _ _ _ _ _ _ _ _ _ _ _ _ _ _ _ _ _ _ _ _ _ _ _ _ _ _ _ _ _ _ _ _ _ _ _ _ _ _ _ _ _ _ _ _ _ _ _ _ _ _ _ _ _ _ _ _ _ _ _ _ _ _ _ _ _ _ _ _ _ _ _ _ _ _ _ _ _ _ _ _ _ _ _ _ _ _ _ _ _ _ _ _ _ _ _ _ _ _ _ _ _ _ _ _ _ _ _ _ _ | go_step)
    · obtain rfl : j = len1 := by omega
      have G : ¬ ((j : Int) < (j : Int)) := by omega
      have HF := Lib.hid (plays25_any (fun e w' => e = .returned (.bool true) ∧ Below w.heap.size w w') k0 k1 m a2 len2 cap2 ss w wr h0 h1 HS.out N3 b ps A c w.heap.size hB hR hr (by omega) hz hT hH (fun w' h => ⟨rfl, h⟩))
      clear hR hT hH HA HS
      repeat (first | exact HF.out _ _ _ _ _ _ _ _ _ _ _ _ _ _ _ _ _ _ _ _ _ _ _ _ _ _ _ _ _ _ _ _ _ _ _ _ _ _ _ _ _ _ _ _ _ _ _ _ _ _ _ _ _ _ _ _ _ _ _ _ _ _ _ _ _ _ _ _ _ _ _ _ _ _ _ _ _ _ _ _ _ _ _ _ _ _ _ _ _ _ _ _ _ _ _ _ _ _ _ _ _ _ _ _ _ _ _ _ _ _ _ _ _ _ _ _ _ _ _ _ _ _ _ _ _ _ _ _ _ _ _ _ _ _ _ _ _ _ _ _ _ _ _ _ _ _ _ _ _ _ _ _ _ _ _ _ _ _ _ _ _ _ _ _ _ _ | go_step)

/-! ### THE ROW's STEP -/
set_option maxRecDepth 100000 in
theorem lifted (os : Os) (started : os.Started) (H : Type) (enc : TypeId × Value → H) :
    ReturnsInHanded {} Tryz.checked os 3 .any (Rows.champPlaysSpec.pre6 enc Tryz.prog Tryz.f3 Rows.champPlaysRow.domain false) (Rows.champPlaysSpec.post enc Tryz.prog Tryz.f3 false true false false) := by
  refine returnsInHanded_of_change (C := Tryz.checked) own started (by kernel_rfl) Tryz.func3
    (ChangeSpec.witness6 (enc := enc) (C := Tryz.checked) false ⟨#[], #[.agg #[.int .u64 0, .int .u64 0, .int .u64 0], .slice none 0 0, .slice none 0 0], []⟩ 8 (by kernel_rfl) (by kernel_rfl) (by kernel_rfl) (by kernel_rfl)) ?_
  intro W base args ds gs before hval0 hW hcnd _
  have hval : ∀ (j : Nat) t v, Tryz.f3.params[j]? = some t → args[j]? = some v → Value.okWide Tryz.prog W .any base t v := hval0
  have hW' := hW
  obtain ⟨p, q, hA0, hV, rfl, hfz, hnd⟩ := hW
  have hA : DataW.TrodAll enc Tryz.prog W 0 (fun _ => true) true Tryz.f3.params.toList args.toList ds p := hA0
  rw [Tryz.params3] at hA hval
  obtain ⟨v0, vs0, d0, ds0, p0, q0, hargs, rfl, rfl, h0, r0⟩ := trodAll_cons hA
  obtain ⟨v1, vs1, d1, ds1, p1, q1, rfl, rfl, rfl, h1, r1⟩ := trodAll_cons r0
  obtain ⟨v2, vs2, d2, ds2, p2, q2, rfl, rfl, rfl, h2, r2⟩ := trodAll_cons r1
  obtain ⟨rfl, rfl, rfl⟩ := trodAll_nil r2
  obtain rfl : args = #[v0, v1, v2] := by cases args; simp_all
  obtain ⟨rfl, rfl⟩ := trodVars_none hV
  have k0 := h0
  have lt0 : ∀ x ∈ p0, x.block < W.heap.size := by obtain ⟨m, hm⟩ := k0; exact DataW.trod_lt m _ _ _ hm
  obtain ⟨x0, y0, m0, rfl, u0, t0, r0_⟩ := open_hasher (hval 0 26 v0 rfl rfl) h0
  obtain ⟨a1, len1, cap1, rfl⟩ := okWide_slice Tryz.underlying27 (hval 1 27 v1 rfl rfl)
  have k1 := h1
  have lt1 : ∀ x ∈ p1, x.block < W.heap.size := by obtain ⟨m, hm⟩ := k1; exact DataW.trod_lt m _ _ _ hm
  have w1 := open_acts h1
  obtain ⟨a2, len2, cap2, rfl⟩ := okWide_slice Tryz.underlying28 (hval 2 28 v2 rfl rfl)
  have k2 := h2
  have lt2 : ∀ x ∈ p2, x.block < W.heap.size := by obtain ⟨m, hm⟩ := k2; exact DataW.trod_lt m _ _ _ hm
  obtain ⟨z2, w2⟩ := open_strs h2
  clear hA0 hval0
  refine (walk x0 y0 m0 a1 len1 cap1 a2 len2 cap2 z2 W u0 t0 w1 w2).mono fun e W' ⟨he, bel⟩ => ?_
  subst he
  exact ⟨_, rfl, _, _, _, [], _, [], hW', trodAll_mk1 (shut_bool Tryz.underlying4 _), (trodAll_cons_mk (Below.trod laidOut (by kernel_rfl) (of_decide_eq_true (by kernel_rfl)) k0 bel lt0) (trodAll_cons_mk (Below.trod laidOut (by kernel_rfl) (of_decide_eq_true (by kernel_rfl)) k1 bel lt1) (trodAll_cons_mk (Below.trod laidOut (by kernel_rfl) (of_decide_eq_true (by kernel_rfl)) k2 bel lt2) trodAll_mk0))), rfl, bel.frame _, fun h => by cases h⟩

theorem over : Rows.champPlaysRow.holds Tryz.pinned (OpenSpec.ofChange Rows.champPlaysSpec) :=
  OpenClaim.holds_of_wide 3 Tryz.f3 rfl rfl rfl rfl rfl rfl rfl ⟨rfl, rfl, rfl, rfl, rfl⟩ rfl rfl rfl rfl rfl (by kernel_rfl) Tryz.func3 (by kernel_rfl)
    (of_decide_eq_true (by kernel_rfl)) (by unfold Func.isWrapper; first | (rw [if_pos (by decide +kernel)]; kernel_rfl) | (rw [if_neg (by decide +kernel)]; exact ⟨rfl, rfl⟩))
    (fun os started H enc _ => lifted os started H enc)

theorem proved : Rows.ChampPlaysSaid := over
#print axioms proved
end Go.Proofs.YtfmbikmpobieoaaGreat.champPlays
