/- RadixOrders, part by part. -/
import Derived.Test.YtchimfgbdfmegaaHbc
import Derived.BigQuiet
import Derived.Deep.RegionHeld3
namespace Go.Proofs.Ytchimfgbdfmegaa.radixOrders
open Go.ChangeShapes Go.WideShapes Go.RowKit Go.Lib
set_option linter.unusedVariables false
set_option linter.unnecessarySimpa false
set_option linter.unusedSimpArgs false
set_option linter.unnecessarySimpa false
set_option maxRecDepth 100000
/-- what stays from the lists on -/
structure OB (w0 w : World) (bn bo : Nat) (S Y : List Pr) (A9 Ax Ay : Option Addr) : Prop where
  hB : Below w0.heap.size w0 w
  hTn : PW w bn S
  hTo : PW w bo Y
  hR9 : Rd w A9 S
  hRx : Rd w Ax S
  hRy : Rd w Ay Y
theorem OB.below {w0 w w' : World} {bn bo : Nat} {S Y : List Pr} {A9 Ax Ay : Option Addr} (h : OB w0 w bn bo S Y A9 Ax Ay) (hb : Below w.heap.size w w') : OB w0 w' bn bo S Y A9 Ax Ay :=
  ⟨h.hB.trans (hb.mono h.hB.size), h.hTn.below hb, h.hTo.below hb, h.hR9.below hb, h.hRx.below hb, h.hRy.below hb⟩
theorem leq_self (xs : List Pr) : leq xs xs = true := by simp [leq]
theorem _root_.Go.Proofs.Ytchimfgbdfmegaa.ArgP.len_leR {w : World} {a : Option Addr} {len cap : Nat} {ps : List Pr} (h : ArgP w a len cap ps) : len ≤ maxLen := by
  rcases h with ⟨_, h, _⟩ | ⟨x, rfl, hl, hm, hz, hcell⟩
  · rw [h]; exact Nat.zero_le _
  · omega
noncomputable def ord52 : Code := (Try.f7.body.bind (fromRegion 52)).getD .skip
set_option maxHeartbeats 8000000 in
theorem ord52_any (post : Ending → World → Prop) (w0 w : World) (bn bm bo : Nat) (S Y : List Pr) (A9 Ax Ay : Option Addr) (c9 cx cy : Nat)
    (hO : OB w0 w bn bo S Y A9 Ax Ay) (hcx : S.length ≤ cx) (hlS : S.length ≤ 30) (hlY : Y.length ≤ 30) (hpost : ∀ w', Below w0.heap.size w0 w' → post (.returned (.bool true)) w') (hTm : PW w bm S) (x0 x1 x2 x3 x4 x5 x6 x7 x8 x9 x10 x11 x17 x18 x19 x20 x21 x22 x23 x24 x25 x26 x27 x28 x29 x30 x31 x32 x33 x34 x35 x36 x37 x38 x39 x40 x41 x42 x43 x44 x45 x46 x47 x48 x49 x50 x51 x52 x53 x54 x55 x56 x57 x58 x59 x60 x61 x62 x63 x64 x65 x66 x67 x68 x69 x70 x71 x72 x73 x74 x75 x76 x77 x78 x79 x80 x81 x82 x83 x84 x85 x86 x87 x88 x89 x90 x91 x92 x93 x94 x95 x96 x97 x98 x99 x100 x101 x102 x103 x104 x105 x106 x107 x108 x109 x110 x111 x112 x113 x114 x115 x116 x117 x118 x119 x120 x121 x122 x123 x124 x125 x126 x127 x128 x129 x130 x131 x132 x133 x134 x135 x136 x137 x138 x139 x140 x141 x142 x143 x144 x145 x146 x147 x148 x149 x150 x151 x152 x153 x154 x155 x156 x157 x158 x159 x160 x161 x162 x163 x164 x165 x166 x167 x168 x169 x170 x171 x172 x173 x174 x175 x176 x177 x178 x179 x180 x181 x182 x183 x184 x185 x186 x187 x188 x189 x190 x191 x192 x193 x194 x195 x196 x197 x198 x199 x200 x201 x202 x203 x204 x205 x206 x207 x208 x209 x210 x211 x212 : Value) :
    Code.wp Try.prog ord52 (bodyPost Try.prog Try.f7 post) ⟨#[x0, x1, x2, x3, x4, x5, x6, x7, x8, x9, x10, x11, .pointer (some ⟨bn, 0, none⟩), .pointer (some ⟨bm, 0, none⟩), .pointer (some ⟨bo, 0, none⟩), .slice Ax S.length cx, .slice Ay Y.length cy, x17, x18, x19, x20, x21, x22, x23, x24, x25, x26, x27, x28, x29, x30, x31, x32, x33, x34, x35, x36, x37, x38, x39, x40, x41, x42, x43, x44, x45, x46, x47, x48, x49, x50, x51, x52, x53, x54, x55, x56, x57, x58, x59, x60, x61, x62, x63, x64, x65, x66, x67, x68, x69, x70, x71, x72, x73, x74, x75, x76, x77, x78, x79, x80, x81, x82, x83, x84, x85, x86, x87, x88, x89, x90, x91, x92, x93, x94, x95, x96, x97, x98, x99, x100, x101, x102, x103, x104, x105, x106, x107, x108, x109, x110, x111, x112, x113, x114, x115, x116, x117, x118, x119, x120, x121, x122, x123, x124, x125, x126, x127, x128, x129, x130, x131, x132, x133, x134, x135, x136, x137, x138, x139, x140, x141, x142, x143, x144, x145, x146, x147, x148, x149, x150, x151, x152, x153, x154, x155, x156, x157, x158, x159, x160, x161, x162, x163, x164, x165, x166, x167, x168, x169, x170, x171, x172, x173, x174, x175, x176, x177, x178, x179, x180, x181, x182, x183, x184, x185, x186, x187, x188, x189, x190, x191, x192, x193, x194, x195, x196, x197, x198, x199, x200, x201, x202, x203, x204, x205, x206, x207, x208, x209, x210, x211, x212], []⟩ w := by
  have k1 := tree_list hO.hTn Ax cx (by omega) hO.hRx hcx
  have HO := Lib.hid hO
  have HTm := Lib.hid hTm
  have HP := Lib.hid hpost
  clear hO hTm hpost
  simp only [at0] at k1
  simp only []
  conv => arg 2; whnf
  go_wp2_with fail
  refine k1.mono ?_
  rintro e w1 ⟨rfl, hB1⟩
  have HO := Lib.hid (HO.out.below hB1)
  have HTm := Lib.hid (HTm.out.below hB1)
  have k2 := tree_list HTm.out Ax cx (by omega) HO.out.hRx hcx
  clear k1 hB1
  simp only [at0] at k2
  go_wp2_with fail
  refine k2.mono ?_
  rintro e w2 ⟨rfl, hB2⟩
  have HO := Lib.hid (HO.out.below hB2)
  have HTm := Lib.hid (HTm.out.below hB2)
  have k3 := same_pw HO.out.hTn HTm.out (by omega) (by omega)
  rw [leq_self] at k3
  clear k2 hB2
  simp only [at0] at k3
  go_wp2_with fail
  refine k3.mono ?_
  rintro e w3 ⟨rfl, hB3⟩
  have HO := Lib.hid (HO.out.below hB3)
  have k4 := same_pw HO.out.hTn HO.out.hTo (by omega) (by omega)
  clear k3 hB3
  simp only [at0] at k4
  go_wp2_with fail
  refine k4.mono ?_
  rintro e w4 ⟨rfl, hB4⟩
  have HO := Lib.hid (HO.out.below hB4)
  have k5 := refSame_any Ax Ay cx cy S Y w4 HO.out.hRx HO.out.hRy (by omega) (by omega)
  clear k4 hB4
  generalize leq S Y = bb at *
  cases bb <;>
  · go_wp2_with fail
    refine k5.mono ?_
    rintro e w5 ⟨rfl, n, rfl⟩
    go_wp2_with fail
    exact HP.out _ (HO.out.below (below_drewN w4 n)).hB
end Go.Proofs.Ytchimfgbdfmegaa.radixOrders
/- RadixOrders, part by part. -/
namespace Go.Proofs.Ytchimfgbdfmegaa.radixOrders
open Go.ChangeShapes Go.WideShapes Go.RowKit Go.Lib
set_option linter.unusedVariables false
set_option linter.unnecessarySimpa false
set_option linter.unusedSimpArgs false
set_option linter.unnecessarySimpa false
set_option maxRecDepth 100000
noncomputable def ord45 : Code := (Try.f7.body.bind (fromRegion 45)).getD .skip
set_option maxHeartbeats 16000000 in
theorem ord45_any (post : Ending → World → Prop) (w0 w : World) (bn bm bo : Nat) (S Y : List Pr) (A9 Ax Ay : Option Addr) (c9 cx cy : Nat)
    (hO : OB w0 w bn bo S Y A9 Ax Ay) (hcx : S.length ≤ cx) (hlS : S.length ≤ 30) (hlY : Y.length ≤ 30) (hpost : ∀ w', Below w0.heap.size w0 w' → post (.returned (.bool true)) w') (hrS : RisesL S) (a3 : Option Addr) (len3 cap3 : Nat) (ps3 : List Pr) (hp3 : ArgP w0 a3 len3 cap3 ps3) (M0 : List Pr) (hTm : PW w bm M0) (hlM : M0.length ≤ 60) (hM0 : ∀ p ∈ M0, p ∈ S ∨ p.1 ∈ gks ps3) (hS0 : ∀ p ∈ S, p ∈ M0) (x0 x1 x3 x4 x5 x6 x7 x8 x10 x11 x17 x18 x19 x20 x21 x22 x23 x24 x25 x26 x27 x28 x29 x30 x31 x32 x33 x34 x35 x36 x37 x38 x39 x40 x41 x42 x43 x44 x45 x46 x47 x48 x49 x50 x51 x52 x53 x54 x55 x56 x57 x58 x59 x60 x61 x62 x63 x64 x65 x66 x67 x68 x69 x70 x71 x72 x73 x74 x75 x76 x77 x78 x79 x80 x81 x82 x83 x84 x85 x86 x87 x88 x89 x90 x91 x92 x93 x94 x95 x96 x97 x98 x99 x100 x101 x102 x103 x104 x105 x106 x107 x108 x109 x110 x111 x112 x113 x114 x115 x116 x117 x118 x119 x120 x121 x122 x123 x124 x125 x126 x127 x128 x129 x130 x131 x132 x133 x134 x135 x136 x137 x138 x139 x140 x141 x142 x143 x144 x145 x146 x147 x148 x149 x150 x151 x152 x153 x154 x155 x156 x157 x158 x159 x160 x161 x162 x163 x164 x165 x166 x167 x168 x169 x170 x171 x172 x173 x174 x175 x176 x177 x178 x179 x180 x181 x182 x183 x184 x185 x186 x187 x188 x189 x190 x191 x192 x193 x194 x195 x196 x197 x198 x199 x200 x201 x202 x203 x204 x205 x206 x207 x208 x209 x210 x211 x212 : Value) :
    Code.wp Try.prog ord45 (bodyPost Try.prog Try.f7 post) ⟨#[x0, x1, .slice a3 len3 cap3, x3, x4, x5, x6, x7, x8, .slice A9 S.length c9, x10, x11, .pointer (some ⟨bn, 0, none⟩), .pointer (some ⟨bm, 0, none⟩), .pointer (some ⟨bo, 0, none⟩), .slice Ax S.length cx, .slice Ay Y.length cy, x17, x18, x19, x20, x21, x22, x23, x24, x25, x26, x27, x28, x29, x30, x31, x32, x33, x34, x35, x36, x37, x38, x39, x40, x41, x42, x43, x44, x45, x46, x47, x48, x49, x50, x51, x52, x53, x54, x55, x56, x57, x58, x59, x60, x61, x62, x63, x64, x65, x66, x67, x68, x69, x70, x71, x72, x73, x74, x75, x76, x77, x78, x79, x80, x81, x82, x83, x84, x85, x86, x87, x88, x89, x90, x91, x92, x93, x94, x95, x96, x97, x98, x99, x100, x101, x102, x103, x104, x105, x106, x107, x108, x109, x110, x111, x112, x113, x114, x115, x116, x117, x118, x119, x120, x121, x122, x123, x124, x125, x126, x127, x128, x129, x130, x131, x132, x133, x134, x135, x136, x137, x138, x139, x140, x141, x142, x143, x144, x145, x146, x147, x148, x149, x150, x151, x152, x153, x154, x155, x156, x157, x158, x159, x160, x161, x162, x163, x164, x165, x166, x167, x168, x169, x170, x171, x172, x173, x174, x175, x176, x177, x178, x179, x180, x181, x182, x183, x184, x185, x186, x187, x188, x189, x190, x191, x192, x193, x194, x195, x196, x197, x198, x199, x200, x201, x202, x203, x204, x205, x206, x207, x208, x209, x210, x211, x212], []⟩ w := by
  have HF := Lib.hid (fun wr bm hO hTm => ord52_any post w0 wr bn bm bo S Y A9 Ax Ay c9 cx cy hO hcx hlS hlY hpost hTm)
  have hl3 := hp3.len_leR
  have HA3 := Lib.hid hp3
  clear hpost hp3
  simp only []
  conv => arg 2; whnf
  go_wp2_with fail
  go_loopw [13, 163] (fun v13 vi wr => ∃ (j bq : Nat) (M : List Pr), j ≤ len3 ∧ vi = .int .i64 j ∧ v13 = .pointer (some ⟨bq, 0, none⟩) ∧ M.length ≤ 60 ∧ Hid (∀ p ∈ M, p ∈ S ∨ p.1 ∈ (gks ps3).drop j) ∧ Hid (∀ p ∈ S, p ∈ M) ∧ PW wr bq M ∧ OB w0 wr bn bo S Y A9 Ax Ay) (fun v13 vi wr => len3 - (RowKit.intOf vi).toNat)
  case atStart => exact ⟨0, bm, M0, by omega, rfl, rfl, hlM, Lib.hid (by simpa using hM0), Lib.hid hS0, hTm, hO⟩
  case round =>
    clear hTm hO hM0 hS0 hlM
    obtain ⟨j, bq, M, hj, rfl, rfl, hlM, HM, HSM, hTm, hO⟩ := hrel
    by_cases hlt : j < len3
    · obtain ⟨x, rfl, hpl, c0, c1⟩ := argp_at HA3.out hO.hB j hlt
      have L1 : (j : Int) < (len3 : Int) := by omega
      have L2 : IntKind.i64.wrap ((j : Int) + 1) = ((j + 1 : Nat) : Int) := by rw [IntWalk.i64_in _ (by unfold maxLen at hl3; omega)]; omega
      have HGA := Lib.hid (fun h20 => gks_at (ps := ps3) (j := j) h20 (by omega))
      generalize pat ps3 j = q at *
      go_upto_region 48 with (fail)
      have hBl := (Below.refl _ wr).alloc (Nat.le_refl _) (.cells #[.string q.1, .string q.2] 34)
      have hP := Blk.new wr 34 #[.string q.1, .string q.2]
      have hO := hO.below hBl
      have hTm := hTm.below hBl
      clear hBl c0 c1 hpl
      generalize wr.alloc (.cells #[.string q.1, .string q.2] 34) = W1 at *
      generalize wr.heap.size = NP at *
      have hp1 : (few40 q).1.size ≤ 40 := cut40_size q.1
      have kfew : ∀ w', Calls Try.prog 16 #[.agg #[.string q.1, .string q.2]] w' fun e w'' => e = .returned (.agg #[.string (few40 q).1, .string (few40 q).2]) ∧ Below w'.heap.size w' w'' := fun w' => few_any q.1 q.2 w'
      generalize few40 q = p at *
      have hfl := fun w => field0 p.1 p.2 w
      have p0 : W1.cell? ⟨NP, 0, none⟩ = some (.string q.1) := hP.cell 0
      have p1 : W1.cell? ⟨NP, 1, none⟩ = some (.string q.2) := hP.cell 1
      go_wp2_with fail
      refine (kfew W1).mono ?_
      rintro e w2 ⟨rfl, hB2⟩
      have hO := hO.below hB2
      have hTm := hTm.below hB2
      have hP := hP.below hB2
      have kf := find_any A9 c9 S p.1 w2 hO.hR9 (by omega) hrS
      clear p0 p1 hB2
      go_wp2_with fail
      refine kf.mono ?_
      rintro e w3 ⟨rfl, hB3⟩
      have hO := hO.below hB3
      have hTm := hTm.below hB3
      have hP := hP.below hB3
      clear kf hB3
      generalize posK S p.1 = po at *
      have hik := isK_mem p.1 hrS
      by_cases h20 : j < 20
      · have G : (j : Int) < 20 := by omega
        have HG := Lib.hid (HGA.out h20)
        cases hkk : isK S p.1 with
        | true =>
          rw [hkk] at hik
          obtain ⟨s, hs, hsk⟩ := hik.1 rfl
          clear hik hP kfew hfl
          go_wp2_with fail
          refine ⟨⟨j + 1, bq, M, by omega, by go_num, rfl, hlM, Lib.hid (fun z hz => ?_), HSM, hTm, hO⟩, by simp [RowKit.intOf]; omega⟩
          rcases HM.out z hz with h | h
          · exact .inl h
          · rcases gks_drop HG.out h with h | h
            · exact .inl (by rw [rises_key hTm.rises hz (HSM.out s hs) (h.trans hsk.symm)]; exact hs)
            · exact .inr h
        | false =>
          rw [hkk] at hik
          have hno : ∀ s ∈ S, s.1 ≠ p.1 := fun s hs e => by have := hik.2 ⟨s, hs, e⟩; simp at this
          have q0 : w3.cell? ⟨NP, 0, none⟩ = some (.string q.1) := hP.cell 0
          have q1 : w3.cell? ⟨NP, 1, none⟩ = some (.string q.2) := hP.cell 1
          clear hik
          have Hno := Lib.hid hno
          clear hno
          go_wp2_with fail
          refine (kfew w3).mono ?_
          rintro e w4 ⟨rfl, hB4⟩
          have hO := hO.below hB4
          have hTm := hTm.below hB4
          have kd := drop_list hTm (.pointer none) p.1 (.inl rfl) hp1
          simp only [at0] at kd
          clear hB4 q0 q1 hP
          go_wp2_with fail
          refine kd.mono ?_
          rintro e w5 ⟨b1, rfl, -, hT1, hB5⟩
          have hO := hO.below hB5
          clear kd hTm hfl kfew
          generalize (getR M p.1).isSome = gb at *
          go_wp2_with fail
          refine ⟨⟨j + 1, b1, dropK M p.1, by omega, by go_num, rfl, Nat.le_trans (List.length_filter_le _ _) hlM, Lib.hid (fun z hz => ?_), Lib.hid (fun z hz => drop_key_mem.2 ⟨HSM.out z hz, Hno.out z hz⟩), hT1, hO⟩, by simp [RowKit.intOf]; omega⟩
          obtain ⟨z1, z2⟩ := drop_key_mem.1 hz
          rcases HM.out z z1 with h | h
          · exact .inl h
          · rcases gks_drop HG.out h with h | h
            · exact absurd h z2
            · exact .inr h
      · have G : ¬ ((j : Int) < 20) := by omega
        clear hik hP kfew hfl
        generalize isK S p.1 = gk at *
        go_wp2_with fail
        refine ⟨⟨j + 1, bq, M, by omega, by go_num, rfl, hlM, Lib.hid (fun z hz => ?_), HSM, hTm, hO⟩, by simp [RowKit.intOf]; omega⟩
        rcases HM.out z hz with h | h
        · exact .inl h
        · have e0 : (gks ps3).drop j = [] := List.drop_eq_nil_of_le (by have := gks_len ps3; omega)
          rw [e0] at h; simp at h
    · obtain rfl : j = len3 := by omega
      have G : ¬ ((j : Int) < (j : Int)) := by omega
      have hgl : (gks ps3).length ≤ j := by
        rcases HA3.out with ⟨_, h, _, h'⟩ | ⟨x, _, hl, _⟩
        · rw [h']; simp [gks]
        · unfold gks; rw [List.length_map, List.length_take]; omega
      have e0 : (gks ps3).drop j = [] := List.drop_eq_nil_of_le hgl
      have e : M = S := rises_ext hTm.rises hrS fun z => ⟨fun hz => by
        rcases HM.out z hz with h | h
        · exact h
        · rw [e0] at h; simp at h, fun hz => HSM.out z hz⟩
      subst e
      have HFF := Lib.hid (HF.out wr bq hO hTm)
      clear HF hO hTm HA3
      repeat (first | exact HFF.out _ _ _ _ _ _ _ _ _ _ _ _ _ _ _ _ _ _ _ _ _ _ _ _ _ _ _ _ _ _ _ _ _ _ _ _ _ _ _ _ _ _ _ _ _ _ _ _ _ _ _ _ _ _ _ _ _ _ _ _ _ _ _ _ _ _ _ _ _ _ _ _ _ _ _ _ _ _ _ _ _ _ _ _ _ _ _ _ _ _ _ _ _ _ _ _ _ _ _ _ _ _ _ _ _ _ _ _ _ _ _ _ _ _ _ _ _ _ _ _ _ _ _ _ _ _ _ _ _ _ _ _ _ _ _ _ _ _ _ _ _ _ _ _ _ _ _ _ _ _ _ _ _ _ _ _ _ _ _ _ _ _ _ _ _ _ _ _ _ _ _ _ _ _ _ _ _ _ _ _ _ _ _ _ _ _ _ _ _ _ _ _ _ _ _ _ _ _ _ _ _ _ _ _ _ _ _ _ | go_step)
end Go.Proofs.Ytchimfgbdfmegaa.radixOrders
/- RadixOrders, part by part. -/
namespace Go.Proofs.Ytchimfgbdfmegaa.radixOrders
open Go.ChangeShapes Go.WideShapes Go.RowKit Go.Lib
set_option linter.unusedVariables false
set_option linter.unnecessarySimpa false
set_option linter.unusedSimpArgs false
set_option linter.unnecessarySimpa false
set_option maxRecDepth 100000
noncomputable def ord40 : Code := (Try.f7.body.bind (fromRegion 40)).getD .skip
set_option maxHeartbeats 8000000 in
theorem ord40_any (post : Ending → World → Prop) (w0 w : World) (bn bm bo : Nat) (S Y : List Pr) (A9 Ax Ay : Option Addr) (c9 cx cy : Nat)
    (hO : OB w0 w bn bo S Y A9 Ax Ay) (hcx : S.length ≤ cx) (hlS : S.length ≤ 30) (hlY : Y.length ≤ 30) (hpost : ∀ w', Below w0.heap.size w0 w' → post (.returned (.bool true)) w') (hrS : RisesL S) (a3 : Option Addr) (len3 cap3 : Nat) (ps3 : List Pr) (hp3 : ArgP w0 a3 len3 cap3 ps3) (M0 T : List Pr) (At : Option Addr) (ct : Nat) (hTm : PW w bm M0) (hlM : M0.length ≤ 20) (hM0 : ∀ p ∈ M0, p.1 ∈ gks ps3) (hRt : Rd w At T) (hlT : T.length = S.length) (hTS : ∀ p, p ∈ T ↔ p ∈ S) (hzS : ∀ x ∈ S, x.1.size ≤ 40 ∧ x.2.size ≤ 40) (x0 x1 x3 x4 x5 x6 x7 x8 x10 x11 x17 x18 x19 x20 x22 x23 x24 x25 x26 x27 x28 x29 x30 x31 x32 x33 x34 x35 x36 x37 x38 x39 x40 x41 x42 x43 x44 x45 x46 x47 x48 x49 x50 x51 x52 x53 x54 x55 x56 x57 x58 x59 x60 x61 x62 x63 x64 x65 x66 x67 x68 x69 x70 x71 x72 x73 x74 x75 x76 x77 x78 x79 x80 x81 x82 x83 x84 x85 x86 x87 x88 x89 x90 x91 x92 x93 x94 x95 x96 x97 x98 x99 x100 x101 x102 x103 x104 x105 x106 x107 x108 x109 x110 x111 x112 x113 x114 x115 x116 x117 x118 x119 x120 x121 x122 x123 x124 x125 x126 x127 x128 x129 x130 x131 x132 x133 x134 x135 x136 x137 x138 x139 x140 x141 x142 x143 x144 x145 x146 x147 x148 x149 x150 x151 x152 x153 x154 x155 x156 x157 x158 x159 x160 x161 x162 x163 x164 x165 x166 x167 x168 x169 x170 x171 x172 x173 x174 x175 x176 x177 x178 x179 x180 x181 x182 x183 x184 x185 x186 x187 x188 x189 x190 x191 x192 x193 x194 x195 x196 x197 x198 x199 x200 x201 x202 x203 x204 x205 x206 x207 x208 x209 x210 x211 x212 : Value) :
    Code.wp Try.prog ord40 (bodyPost Try.prog Try.f7 post) ⟨#[x0, x1, .slice a3 len3 cap3, x3, x4, x5, x6, x7, x8, .slice A9 S.length c9, x10, x11, .pointer (some ⟨bn, 0, none⟩), .pointer (some ⟨bm, 0, none⟩), .pointer (some ⟨bo, 0, none⟩), .slice Ax S.length cx, .slice Ay Y.length cy, x17, x18, x19, x20, .slice At T.length ct, x22, x23, x24, x25, x26, x27, x28, x29, x30, x31, x32, x33, x34, x35, x36, x37, x38, x39, x40, x41, x42, x43, x44, x45, x46, x47, x48, x49, x50, x51, x52, x53, x54, x55, x56, x57, x58, x59, x60, x61, x62, x63, x64, x65, x66, x67, x68, x69, x70, x71, x72, x73, x74, x75, x76, x77, x78, x79, x80, x81, x82, x83, x84, x85, x86, x87, x88, x89, x90, x91, x92, x93, x94, x95, x96, x97, x98, x99, x100, x101, x102, x103, x104, x105, x106, x107, x108, x109, x110, x111, x112, x113, x114, x115, x116, x117, x118, x119, x120, x121, x122, x123, x124, x125, x126, x127, x128, x129, x130, x131, x132, x133, x134, x135, x136, x137, x138, x139, x140, x141, x142, x143, x144, x145, x146, x147, x148, x149, x150, x151, x152, x153, x154, x155, x156, x157, x158, x159, x160, x161, x162, x163, x164, x165, x166, x167, x168, x169, x170, x171, x172, x173, x174, x175, x176, x177, x178, x179, x180, x181, x182, x183, x184, x185, x186, x187, x188, x189, x190, x191, x192, x193, x194, x195, x196, x197, x198, x199, x200, x201, x202, x203, x204, x205, x206, x207, x208, x209, x210, x211, x212], []⟩ w := by
  have HF := Lib.hid (fun wr bm M0 hO hTm hlM hM hS => ord45_any post w0 wr bn bm bo S Y A9 Ax Ay c9 cx cy hO hcx hlS hlY hpost hrS a3 len3 cap3 ps3 hp3 M0 hTm hlM hM hS)
  have HTS := Lib.hid hTS
  clear hpost hp3 hTS
  simp only []
  conv => arg 2; whnf
  go_wp2_with fail
  go_loopw [13, 150] (fun v13 vi wr => ∃ (j bq : Nat) (M : List Pr), j ≤ T.length ∧ vi = .int .i64 j ∧ v13 = .pointer (some ⟨bq, 0, none⟩) ∧ M.length ≤ 20 + j ∧ Hid (∀ p ∈ M, p ∈ S ∨ p.1 ∈ gks ps3) ∧ Hid (∀ p ∈ T.take j, p ∈ M) ∧ PW wr bq M ∧ Rd wr At T ∧ OB w0 wr bn bo S Y A9 Ax Ay) (fun v13 vi wr => T.length - (RowKit.intOf vi).toNat)
  case atStart => exact ⟨0, bm, M0, by omega, rfl, rfl, by omega, Lib.hid (fun p hp => .inr (hM0 p hp)), Lib.hid (by simp), hTm, hRt, hO⟩
  case round =>
    clear hTm hO hRt hM0 hlM
    obtain ⟨j, bq, M, hj, rfl, rfl, hlM, HM, HTM, hTm, hRt, hO⟩ := hrel
    by_cases hlt : j < T.length
    · obtain ⟨g, off, rfl, c0, c1⟩ := hRt j T[j] (List.getElem?_eq_getElem hlt)
      have L1 : (j : Int) < (T.length : Int) := by omega
      have L2 : IntKind.i64.wrap ((j : Int) + 1) = ((j + 1 : Nat) : Int) := by rw [IntWalk.i64_in _ (by omega)]; omega
      have HTk := Lib.hid (List.take_succ_eq_append_getElem hlt)
      have hqS : T[j] ∈ S := (HTS.out _).1 (List.getElem_mem hlt)
      have HTT := Lib.hid (fun p (hp : p ∈ T.take j) => (HTS.out p).1 (List.mem_of_mem_take hp))
      generalize T[j] = q at *
      have hq1 := hzS q hqS
      go_upto_region 43 with (fail)
      have hBl := (Below.refl _ wr).alloc (Nat.le_refl _) (.cells #[.string q.1, .string q.2] 34)
      have hP := Blk.new wr 34 #[.string q.1, .string q.2]
      have hO := hO.below hBl
      have hTm := hTm.below hBl
      have hRt := hRt.below hBl
      clear hBl c0 c1
      generalize wr.alloc (.cells #[.string q.1, .string q.2] 34) = W1 at *
      generalize wr.heap.size = NP at *
      have p0 : W1.cell? ⟨NP, 0, none⟩ = some (.string q.1) := hP.cell 0
      have p1 : W1.cell? ⟨NP, 1, none⟩ = some (.string q.2) := hP.cell 1
      have kp := put_list hTm (.pointer none) q.1 q.2 (.inl rfl) hq1.1 hq1.2
      simp only [at0] at kp
      clear hP
      go_wp2_with fail
      refine kp.mono ?_
      rintro e w1 ⟨b1, rfl, -, hT1, hB1⟩
      have hO := hO.below hB1
      have hRt := hRt.below hB1
      clear kp p0 p1 hB1 hTm
      generalize (getR M q.1).isNone = gb at *
      go_wp2_with fail
      refine ⟨⟨j + 1, b1, putK M q, by omega, by go_num, rfl, ?_, Lib.hid (fun z hz => ?_), Lib.hid (fun z hz => ?_), hT1, hRt, hO⟩, by simp [RowKit.intOf]; omega⟩
      · have := put_lenR M q
        omega
      · rcases put_sets.1 hz with rfl | ⟨h, _⟩
        · exact .inl hqS
        · exact HM.out z h
      · rw [HTk.out] at hz
        rcases List.mem_append.1 hz with h | h
        · by_cases e : z.1 = q.1
          · exact put_sets.2 (.inl (rises_key hrS (HTT.out z h) hqS e))
          · exact put_sets.2 (.inr ⟨HTM.out z h, e⟩)
        · rw [List.mem_singleton] at h
          exact put_sets.2 (.inl h)
    · obtain rfl : j = T.length := by omega
      have G : ¬ ((T.length : Int) < (T.length : Int)) := by omega
      have HFF := Lib.hid (HF.out wr bq M hO hTm (by omega) HM.out (fun p hp => HTM.out p (by rw [List.take_length]; exact (HTS.out p).2 hp)))
      clear HF hO hRt hTm
      repeat (first | exact HFF.out _ _ _ _ _ _ _ _ _ _ _ _ _ _ _ _ _ _ _ _ _ _ _ _ _ _ _ _ _ _ _ _ _ _ _ _ _ _ _ _ _ _ _ _ _ _ _ _ _ _ _ _ _ _ _ _ _ _ _ _ _ _ _ _ _ _ _ _ _ _ _ _ _ _ _ _ _ _ _ _ _ _ _ _ _ _ _ _ _ _ _ _ _ _ _ _ _ _ _ _ _ _ _ _ _ _ _ _ _ _ _ _ _ _ _ _ _ _ _ _ _ _ _ _ _ _ _ _ _ _ _ _ _ _ _ _ _ _ _ _ _ _ _ _ _ _ _ _ _ _ _ _ _ _ _ _ _ _ _ _ _ _ _ _ _ _ _ _ _ _ _ _ _ _ _ _ _ _ _ _ _ _ _ _ _ _ _ _ _ _ _ _ _ _ _ _ _ _ _ _ _ _ _ _ _ _ | go_step)
end Go.Proofs.Ytchimfgbdfmegaa.radixOrders
/- RadixOrders, part by part. -/
namespace Go.Proofs.Ytchimfgbdfmegaa.radixOrders
open Go.ChangeShapes Go.WideShapes Go.RowKit Go.Lib
set_option linter.unusedVariables false
set_option linter.unnecessarySimpa false
set_option linter.unusedSimpArgs false
set_option linter.unnecessarySimpa false
set_option maxRecDepth 100000
noncomputable def ord34 : Code := (Try.f7.body.bind (fromRegion 34)).getD .skip
set_option maxHeartbeats 16000000 in
theorem ord34_any (post : Ending → World → Prop) (w0 w : World) (bn bm bo : Nat) (S Y : List Pr) (A9 Ax Ay : Option Addr) (c9 cx cy : Nat)
    (hO : OB w0 w bn bo S Y A9 Ax Ay) (hcx : S.length ≤ cx) (hlS : S.length ≤ 30) (hlY : Y.length ≤ 30) (hpost : ∀ w', Below w0.heap.size w0 w' → post (.returned (.bool true)) w') (hrS : RisesL S) (a3 : Option Addr) (len3 cap3 : Nat) (ps3 : List Pr) (hp3 : ArgP w0 a3 len3 cap3 ps3) (T : List Pr) (At : Option Addr) (ct : Nat) (hTm : PW w bm []) (hRt : Rd w At T) (hlT : T.length = S.length) (hTS : ∀ p, p ∈ T ↔ p ∈ S) (hzS : ∀ x ∈ S, x.1.size ≤ 40 ∧ x.2.size ≤ 40) (x0 x1 x3 x4 x5 x6 x7 x8 x10 x11 x17 x18 x19 x20 x22 x23 x24 x25 x26 x27 x28 x29 x30 x31 x32 x33 x34 x35 x36 x37 x38 x39 x40 x41 x42 x43 x44 x45 x46 x47 x48 x49 x50 x51 x52 x53 x54 x55 x56 x57 x58 x59 x60 x61 x62 x63 x64 x65 x66 x67 x68 x69 x70 x71 x72 x73 x74 x75 x76 x77 x78 x79 x80 x81 x82 x83 x84 x85 x86 x87 x88 x89 x90 x91 x92 x93 x94 x95 x96 x97 x98 x99 x100 x101 x102 x103 x104 x105 x106 x107 x108 x109 x110 x111 x112 x113 x114 x115 x116 x117 x118 x119 x120 x121 x122 x123 x124 x125 x126 x127 x128 x129 x130 x131 x132 x133 x134 x135 x136 x137 x138 x139 x140 x141 x142 x143 x144 x145 x146 x147 x148 x149 x150 x151 x152 x153 x154 x155 x156 x157 x158 x159 x160 x161 x162 x163 x164 x165 x166 x167 x168 x169 x170 x171 x172 x173 x174 x175 x176 x177 x178 x179 x180 x181 x182 x183 x184 x185 x186 x187 x188 x189 x190 x191 x192 x193 x194 x195 x196 x197 x198 x199 x200 x201 x202 x203 x204 x205 x206 x207 x208 x209 x210 x211 x212 : Value) :
    Code.wp Try.prog ord34 (bodyPost Try.prog Try.f7 post) ⟨#[x0, x1, .slice a3 len3 cap3, x3, x4, x5, x6, x7, x8, .slice A9 S.length c9, x10, x11, .pointer (some ⟨bn, 0, none⟩), .pointer (some ⟨bm, 0, none⟩), .pointer (some ⟨bo, 0, none⟩), .slice Ax S.length cx, .slice Ay Y.length cy, x17, x18, x19, x20, .slice At T.length ct, x22, x23, x24, x25, x26, x27, x28, x29, x30, x31, x32, x33, x34, x35, x36, x37, x38, x39, x40, x41, x42, x43, x44, x45, x46, x47, x48, x49, x50, x51, x52, x53, x54, x55, x56, x57, x58, x59, x60, x61, x62, x63, x64, x65, x66, x67, x68, x69, x70, x71, x72, x73, x74, x75, x76, x77, x78, x79, x80, x81, x82, x83, x84, x85, x86, x87, x88, x89, x90, x91, x92, x93, x94, x95, x96, x97, x98, x99, x100, x101, x102, x103, x104, x105, x106, x107, x108, x109, x110, x111, x112, x113, x114, x115, x116, x117, x118, x119, x120, x121, x122, x123, x124, x125, x126, x127, x128, x129, x130, x131, x132, x133, x134, x135, x136, x137, x138, x139, x140, x141, x142, x143, x144, x145, x146, x147, x148, x149, x150, x151, x152, x153, x154, x155, x156, x157, x158, x159, x160, x161, x162, x163, x164, x165, x166, x167, x168, x169, x170, x171, x172, x173, x174, x175, x176, x177, x178, x179, x180, x181, x182, x183, x184, x185, x186, x187, x188, x189, x190, x191, x192, x193, x194, x195, x196, x197, x198, x199, x200, x201, x202, x203, x204, x205, x206, x207, x208, x209, x210, x211, x212], []⟩ w := by
  have HF := Lib.hid (fun wr bm M0 hO hTm hlM hM hRt => ord40_any post w0 wr bn bm bo S Y A9 Ax Ay c9 cx cy hO hcx hlS hlY hpost hrS a3 len3 cap3 ps3 hp3 M0 T At ct hTm hlM hM hRt hlT hTS hzS)
  have hl3 := hp3.len_leR
  have HA3 := Lib.hid hp3
  clear hpost hp3 hTS hlT
  simp only []
  conv => arg 2; whnf
  go_wp2_with fail
  go_loopw [13, 133] (fun v13 vi wr => ∃ (j bq : Nat) (M : List Pr), j ≤ len3 ∧ vi = .int .i64 j ∧ v13 = .pointer (some ⟨bq, 0, none⟩) ∧ M.length ≤ j ∧ M.length ≤ 20 ∧ Hid (∀ p ∈ M, p.1 ∈ gks ps3) ∧ PW wr bq M ∧ Rd wr At T ∧ OB w0 wr bn bo S Y A9 Ax Ay) (fun v13 vi wr => len3 - (RowKit.intOf vi).toNat)
  case atStart => exact ⟨0, bm, [], by omega, rfl, rfl, by simp, by simp, Lib.hid (by simp), hTm, hRt, hO⟩
  case round =>
    clear hTm hO hRt
    obtain ⟨j, bq, M, hj, rfl, rfl, hlj, hlM, HM, hTm, hRt, hO⟩ := hrel
    by_cases hlt : j < len3
    · obtain ⟨x, rfl, hpl, c0, c1⟩ := argp_at HA3.out hO.hB j hlt
      have L1 : (j : Int) < (len3 : Int) := by omega
      have L2 : IntKind.i64.wrap ((j : Int) + 1) = ((j + 1 : Nat) : Int) := by rw [IntWalk.i64_in _ (by unfold maxLen at hl3; omega)]; omega
      have HGA := Lib.hid (fun h20 => gks_at (ps := ps3) (j := j) h20 (by omega))
      generalize pat ps3 j = q at *
      go_upto_region 37 with (fail)
      have hBl := (Below.refl _ wr).alloc (Nat.le_refl _) (.cells #[.string q.1, .string q.2] 34)
      have hP := Blk.new wr 34 #[.string q.1, .string q.2]
      have hO := hO.below hBl
      have hTm := hTm.below hBl
      have hRt := hRt.below hBl
      clear hBl c0 c1 hpl
      generalize wr.alloc (.cells #[.string q.1, .string q.2] 34) = w3 at *
      generalize wr.heap.size = NP at *
      by_cases h20 : j < 20
      · have G : (j : Int) < 20 := by omega
        have HG := Lib.hid (List.mem_of_getElem? (HGA.out h20))
        have hp1 : (few40 q).1.size ≤ 40 := cut40_size q.1
        have hp2 : (few40 q).2.size ≤ 40 := cut40_size q.2
        have kfew : Calls Try.prog 16 #[.agg #[.string q.1, .string q.2]] w3 fun e w'' => e = .returned (.agg #[.string (few40 q).1, .string (few40 q).2]) ∧ Below w3.heap.size w3 w'' := few_any q.1 q.2 w3
        generalize few40 q = p at *
        have q0 : w3.cell? ⟨NP, 0, none⟩ = some (.string q.1) := hP.cell 0
        have q1 : w3.cell? ⟨NP, 1, none⟩ = some (.string q.2) := hP.cell 1
        clear hP
        go_wp2_with fail
        refine kfew.mono ?_
        rintro e w4 ⟨rfl, hB4⟩
        have hO := hO.below hB4
        have hTm := hTm.below hB4
        have hRt := hRt.below hB4
        have kp := put_list hTm (.pointer none) p.1 p.2 (.inl rfl) hp1 hp2
        simp only [at0] at kp
        clear hB4 q0 q1 kfew
        go_wp2_with fail
        refine kp.mono ?_
        rintro e w5 ⟨b1, rfl, -, hT1, hB5⟩
        have hO := hO.below hB5
        have hRt := hRt.below hB5
        clear kp hTm hB5
        generalize (getR M p.1).isNone = gb at *
        go_wp2_with fail
        refine ⟨⟨j + 1, b1, putK M p, by omega, by go_num, rfl, ?_, ?_, Lib.hid (fun z hz => ?_), hT1, hRt, hO⟩, by simp [RowKit.intOf]; omega⟩
        · have := put_lenR M p
          omega
        · have := put_lenR M p
          omega
        · rcases put_sets.1 hz with rfl | ⟨h, _⟩
          · exact HG.out
          · exact HM.out z h
      · have G : ¬ ((j : Int) < 20) := by omega
        clear hP
        go_wp2_with fail
        exact ⟨⟨j + 1, bq, M, by omega, by go_num, rfl, by omega, hlM, HM, hTm, hRt, hO⟩, by simp [RowKit.intOf]; omega⟩
    · obtain rfl : j = len3 := by omega
      have G : ¬ ((j : Int) < (j : Int)) := by omega
      have HFF := Lib.hid (HF.out wr bq M hO hTm hlM HM.out hRt)
      clear HF hO hRt hTm HA3
      repeat (first | exact HFF.out _ _ _ _ _ _ _ _ _ _ _ _ _ _ _ _ _ _ _ _ _ _ _ _ _ _ _ _ _ _ _ _ _ _ _ _ _ _ _ _ _ _ _ _ _ _ _ _ _ _ _ _ _ _ _ _ _ _ _ _ _ _ _ _ _ _ _ _ _ _ _ _ _ _ _ _ _ _ _ _ _ _ _ _ _ _ _ _ _ _ _ _ _ _ _ _ _ _ _ _ _ _ _ _ _ _ _ _ _ _ _ _ _ _ _ _ _ _ _ _ _ _ _ _ _ _ _ _ _ _ _ _ _ _ _ _ _ _ _ _ _ _ _ _ _ _ _ _ _ _ _ _ _ _ _ _ _ _ _ _ _ _ _ _ _ _ _ _ _ _ _ _ _ _ _ _ _ _ _ _ _ _ _ _ _ _ _ _ _ _ _ _ _ _ _ _ _ _ _ _ _ _ _ _ _ | go_step)
end Go.Proofs.Ytchimfgbdfmegaa.radixOrders
/- RadixOrders, part by part. -/
namespace Go.Proofs.Ytchimfgbdfmegaa.radixOrders
open Go.ChangeShapes Go.WideShapes Go.RowKit Go.Lib
set_option linter.unusedVariables false
set_option linter.unnecessarySimpa false
set_option linter.unusedSimpArgs false
set_option linter.unnecessarySimpa false
set_option maxRecDepth 100000
noncomputable def ord27 : Code := (Try.f7.body.bind (fromRegion 27)).getD .skip
set_option maxHeartbeats 16000000 in
theorem ord27_any (post : Ending → World → Prop) (w0 w : World) (bn bm bo : Nat) (S Y : List Pr) (A9 Ax Ay : Option Addr) (c9 cx cy : Nat)
    (hO : OB w0 w bn bo S Y A9 Ax Ay) (hcx : S.length ≤ cx) (hlS : S.length ≤ 30) (hlY : Y.length ≤ 30) (hpost : ∀ w', Below w0.heap.size w0 w' → post (.returned (.bool true)) w') (hrS : RisesL S) (a2 : Option Addr) (len2 cap2 : Nat) (zs : List Int) (hrow : IsRow .u8 w0 a2 len2 cap2 zs) (a3 : Option Addr) (len3 cap3 : Nat) (ps3 : List Pr) (hp3 : ArgP w0 a3 len3 cap3 ps3) (hTm : PW w bm []) (hzS : ∀ x ∈ S, x.1.size ≤ 40 ∧ x.2.size ≤ 40)
    (w2 : World) (hB12 : Below w.heap.size w w2) (T0 : List Pr) (TL : Nat) (A16 : Option Addr) (c16 : Nat) (hOt : Own w.heap.size w2 (.slice A16 TL c16) T0) (hlT : T0.length = TL) (hTL : TL = S.length) (hTS : ∀ p, p ∈ T0 ↔ p ∈ S) (x0 x3 x4 x5 x6 x7 x8 x10 x11 x17 x18 x19 x20 x22 x23 x24 x25 x26 x27 x28 x29 x30 x31 x32 x33 x34 x35 x36 x37 x38 x39 x40 x41 x42 x43 x44 x45 x46 x47 x48 x49 x50 x51 x52 x53 x54 x55 x56 x57 x58 x59 x60 x61 x62 x63 x64 x65 x66 x67 x68 x69 x70 x71 x72 x73 x74 x75 x76 x77 x78 x79 x80 x81 x82 x83 x84 x85 x86 x87 x88 x89 x90 x91 x92 x93 x94 x95 x96 x97 x98 x99 x100 x101 x102 x103 x104 x105 x106 x107 x108 x109 x110 x111 x112 x113 x114 x115 x116 x117 x118 x119 x120 x121 x122 x123 x124 x125 x126 x127 x128 x129 x130 x131 x132 x133 x134 x135 x136 x137 x138 x139 x140 x141 x142 x143 x144 x145 x146 x147 x148 x149 x150 x151 x152 x153 x154 x155 x156 x157 x158 x159 x160 x161 x162 x163 x164 x165 x166 x167 x168 x169 x170 x171 x172 x173 x174 x175 x176 x177 x178 x179 x180 x181 x182 x183 x184 x185 x186 x187 x188 x189 x190 x191 x192 x193 x194 x195 x196 x197 x198 x199 x200 x201 x202 x203 x204 x205 x206 x207 x208 x209 x210 x211 x212 : Value) :
    Code.wp Try.prog ord27 (bodyPost Try.prog Try.f7 post) ⟨#[x0, .slice a2 len2 cap2, .slice a3 len3 cap3, x3, x4, x5, x6, x7, x8, .slice A9 S.length c9, x10, x11, .pointer (some ⟨bn, 0, none⟩), .pointer (some ⟨bm, 0, none⟩), .pointer (some ⟨bo, 0, none⟩), .slice Ax S.length cx, .slice Ay Y.length cy, x17, x18, x19, x20, .slice A16 TL c16, x22, x23, x24, x25, x26, x27, x28, x29, x30, x31, x32, x33, x34, x35, x36, x37, x38, x39, x40, x41, x42, x43, x44, x45, x46, x47, x48, x49, x50, x51, x52, x53, x54, x55, x56, x57, x58, x59, x60, x61, x62, x63, x64, x65, x66, x67, x68, x69, x70, x71, x72, x73, x74, x75, x76, x77, x78, x79, x80, x81, x82, x83, x84, x85, x86, x87, x88, x89, x90, x91, x92, x93, x94, x95, x96, x97, x98, x99, x100, x101, x102, x103, x104, x105, x106, x107, x108, x109, x110, x111, x112, x113, x114, x115, x116, x117, x118, x119, x120, x121, x122, x123, x124, x125, x126, x127, x128, x129, x130, x131, x132, x133, x134, x135, x136, x137, x138, x139, x140, x141, x142, x143, x144, x145, x146, x147, x148, x149, x150, x151, x152, x153, x154, x155, x156, x157, x158, x159, x160, x161, x162, x163, x164, x165, x166, x167, x168, x169, x170, x171, x172, x173, x174, x175, x176, x177, x178, x179, x180, x181, x182, x183, x184, x185, x186, x187, x188, x189, x190, x191, x192, x193, x194, x195, x196, x197, x198, x199, x200, x201, x202, x203, x204, x205, x206, x207, x208, x209, x210, x211, x212], []⟩ w2 := by
  have HF := Lib.hid (fun wr (T : List Pr) At ct (hBw : Below w.heap.size w wr) hRt (e : T.length = S.length) hTS => ord34_any post w0 wr bn bm bo S Y A9 Ax Ay c9 cx cy (hO.below hBw) hcx hlS hlY hpost hrS a3 len3 cap3 ps3 hp3 T At ct (hTm.below hBw) hRt e hTS hzS)
  have hl2 := hrow.len_le
  have HR2 := Lib.hid hrow
  have HTL := Lib.hid hTL
  have HB0 := Lib.hid hO.hB
  have hTL30 : TL ≤ 30 := by omega
  clear hpost hp3 hTm hO hrow hTL
  simp only []
  conv => arg 2; whnf
  go_wp2_with fail
  go_loopw [97] (fun vi wr => ∃ (j : Nat) (T : List Pr), j ≤ TL ∧ vi = .int .i64 j ∧ T.length = TL ∧ (∀ p, p ∈ T ↔ p ∈ S) ∧ Own w.heap.size wr (.slice A16 TL c16) T ∧ Below w.heap.size w wr) (fun vi wr => TL - (RowKit.intOf vi).toNat)
  case atStart => exact ⟨0, T0, by omega, rfl, hlT, hTS, hOt, hB12⟩
  case round =>
    clear hOt hB12 hlT hTS
    obtain ⟨j, T, hj, rfl, hlT, hTS', hOt, hB⟩ := hrel
    have HTS := Lib.hid hTS'
    clear hTS'
    by_cases hlt : j < TL
    · have L1 : (j : Int) < (TL : Int) := by omega
      have L2 : IntKind.i64.wrap ((j : Int) + 1) = ((j + 1 : Nat) : Int) := by rw [IntWalk.i64_in _ (by omega)]; omega
      by_cases h3 : j < len2
      · have L3 : (j : Int) < (len2 : Int) := by omega
        have hBw0 := HB0.out.trans (hB.mono HB0.out.size)
        obtain ⟨x, z, rfl, c0, hz0, hz1⟩ := HR2.out.at hBw0 j h3
        obtain ⟨zn, rfl⟩ := Int.eq_ofNat_of_zero_le hz0
        obtain ⟨DD, hDD⟩ : ∃ DD, DD = TL - j := ⟨_, rfl⟩
        obtain ⟨RR, hRR⟩ : ∃ RR, RR = zn % DD := ⟨_, rfl⟩
        obtain ⟨J, hJ⟩ : ∃ J, J = j + RR := ⟨_, rfl⟩
        have hRD : RR < DD := by rw [hRR]; exact Nat.mod_lt _ (by omega)
        have M1 : IntKind.i64.wrap ((TL : Int) - (j : Int)) = (DD : Int) := by rw [IntWalk.i64_in _ (by omega)]; omega
        have M2 : ¬ ((DD : Int) = 0) := by omega
        have M3 : (zn : Int) % (DD : Int) = (RR : Int) := by rw [hRR]; omega
        have M4 : IntKind.i64.wrap ((j : Int) + (RR : Int)) = (J : Int) := by rw [IntWalk.i64_in _ (by omega)]; omega
        have M5 : IntKind.i64.wrap (zn : Int) = (zn : Int) := by rw [IntWalk.i64_in _ (by omega)]
        have hJK : J < TL := by omega
        have M6 : (J : Int) < (TL : Int) := by omega
        clear hJ hRR hDD hRD hBw0
        obtain ⟨g, c', e'⟩ := own_succ (k := TL - 1) (by
          have := hOt
          unfold Own at this
          rw [hlT, show TL = TL - 1 + 1 by omega] at this
          exact this)
        simp only [Value.slice.injEq] at e'
        obtain ⟨rfl, -, rfl⟩ := e'
        obtain ⟨zi0, zi1, yi0, yi1⟩ := hOt.two j (by omega)
        obtain ⟨zj0, zj1, yj0, yj1⟩ := hOt.two J (by omega)
        have hsw := hOt.swap j J (by omega) (by omega)
        have hge : w.heap.size ≤ g := own_ge hOt g rfl
        obtain ⟨T2, hT2⟩ : ∃ T2, T2 = sw T j J := ⟨_, rfl⟩
        rw [← hT2] at hsw
        have hT2l : T2.length = TL := by rw [hT2, sw_length]; exact hlT
        have HT2 := Lib.hid (fun p => by rw [hT2, sw_mem (by omega) (by omega)]; exact HTS.out p : ∀ p, p ∈ T2 ↔ p ∈ S)
        have HOT := Lib.hid hsw
        have HBB := Lib.hid ((((hB.setCell (p := ⟨g, j * 2, none⟩) hge (.string (pat T J).1)).setCell (p := ⟨g, j * 2 + 1, none⟩) hge (.string (pat T J).2)).setCell (p := ⟨g, J * 2, none⟩) hge (.string (pat T j).1)).setCell (p := ⟨g, J * 2 + 1, none⟩) hge (.string (pat T j).2))
        have hjj : (j = J → pat T J = pat T j) := fun e => by rw [e]
        clear hsw hOt hB hT2 HR2
        generalize pat T J = kj at *
        generalize pat T j = ki at *
        by_cases hij : j = J
        · have ekk := hjj hij
          subst hij
          subst ekk
          clear hjj
          go_upto_region 32 with (fail)
          refine wp_region_late (S := fun w' => w'.cell? ⟨g, j * 2, none⟩ = some (.string kj.1) ∧ w'.cell? ⟨g, j * 2 + 1, none⟩ = some (.string kj.2) ∧ w'.cell? ⟨g, j * 2, none⟩ = some (.string kj.1) ∧ w'.cell? ⟨g, j * 2 + 1, none⟩ = some (.string kj.2)) (st := 13) (by kernel_rfl) ?_
          have hS : (fun w' : World => w'.cell? ⟨g, j * 2, none⟩ = some (.string kj.1) ∧ w'.cell? ⟨g, j * 2 + 1, none⟩ = some (.string kj.2) ∧ w'.cell? ⟨g, j * 2, none⟩ = some (.string kj.1) ∧ w'.cell? ⟨g, j * 2 + 1, none⟩ = some (.string kj.2)) wr.drew := ⟨zj0, zj1, zi0, zi1⟩
          refine wpAnyL_take0 (i := 0) (oi := { dst := some 116, op := Go.Op.move (Go.Operand.tmp 21), type := 64, pos := "law.go:207", after := #[], guard := none }) (v := .slice (some ⟨g, 0, none⟩) TL c16) rfl (by kernel_rfl) (by kernel_rfl) (by kernel_rfl) (by kernel_rfl) (fun _ _ _ h => h) hS (Or.inl ⟨by rfl, fun w hSw => ?_⟩) ?_
          · go_split_ands
            go_simp
          try simp only [Act.put, List.setIfInBounds_toArray, List.set_cons_zero, List.set_cons_succ]
          refine wpAnyL_take0 (i := 1) (oi := { dst := some 117, op := Go.Op.move (Go.Operand.tmp 22), type := 3, pos := "law.go:207", after := #[], guard := none }) (v := .int .i64 j) rfl (by kernel_rfl) (by kernel_rfl) (by kernel_rfl) (by kernel_rfl) (fun _ _ _ h => h) hS (Or.inl ⟨by rfl, fun w hSw => ?_⟩) ?_
          · go_split_ands
            go_simp
          try simp only [Act.put, List.setIfInBounds_toArray, List.set_cons_zero, List.set_cons_succ]
          refine wpAnyL_take0 (i := 2) (oi := { dst := some 118, op := Go.Op.move (Go.Operand.tmp 21), type := 64, pos := "law.go:207", after := #[{ on := 13, ground := Go.Ground.gcOnly Go.Departure.lateStores }], guard := none }) (v := .slice (some ⟨g, 0, none⟩) TL c16) rfl (by kernel_rfl) (by kernel_rfl) (by kernel_rfl) (by kernel_rfl) (fun _ _ _ h => h) hS (Or.inl ⟨by rfl, fun w hSw => ?_⟩) ?_
          · go_split_ands
            go_simp
          try simp only [Act.put, List.setIfInBounds_toArray, List.set_cons_zero, List.set_cons_succ]
          refine wpAnyL_take0 (i := 3) (oi := { dst := some 119, op := Go.Op.move (Go.Operand.tmp 23), type := 3, pos := "law.go:207", after := #[{ on := 13, ground := Go.Ground.gcOnly Go.Departure.lateStores }], guard := none }) (v := .int .i64 j) rfl (by kernel_rfl) (by kernel_rfl) (by kernel_rfl) (by kernel_rfl) (fun _ _ _ h => h) hS (Or.inl ⟨by rfl, fun w hSw => ?_⟩) ?_
          · go_split_ands
            go_simp
          try simp only [Act.put, List.setIfInBounds_toArray, List.set_cons_zero, List.set_cons_succ]
          refine wpAnyL_take0 (i := 4) (oi := { dst := some 120, op := Go.Op.move (Go.Operand.tmp 21), type := 64, pos := "law.go:207", after := #[], guard := none }) (v := .slice (some ⟨g, 0, none⟩) TL c16) rfl (by kernel_rfl) (by kernel_rfl) (by kernel_rfl) (by kernel_rfl) (fun _ _ _ h => h) hS (Or.inl ⟨by rfl, fun w hSw => ?_⟩) ?_
          · go_split_ands
            go_simp
          try simp only [Act.put, List.setIfInBounds_toArray, List.set_cons_zero, List.set_cons_succ]
          refine wpAnyL_take0 (i := 5) (oi := { dst := some 121, op := Go.Op.move (Go.Operand.tmp 23), type := 3, pos := "law.go:207", after := #[], guard := none }) (v := .int .i64 j) rfl (by kernel_rfl) (by kernel_rfl) (by kernel_rfl) (by kernel_rfl) (fun _ _ _ h => h) hS (Or.inl ⟨by rfl, fun w hSw => ?_⟩) ?_
          · go_split_ands
            go_simp
          try simp only [Act.put, List.setIfInBounds_toArray, List.set_cons_zero, List.set_cons_succ]
          refine wpAnyL_take0 (i := 6) (oi := { dst := some 122, op := Go.Op.indexAddr 64 (Go.Operand.tmp 120) (Go.Operand.tmp 121), type := 0, pos := "law.go:207", after := #[{ on := 4, ground := Go.Ground.data }, { on := 5, ground := Go.Ground.data }], guard := none }) (v := .pointer (some ⟨g, j * 2, none⟩)) rfl (by kernel_rfl) (by kernel_rfl) (by kernel_rfl) (by kernel_rfl) (fun _ _ _ h => h) hS (Or.inl ⟨by rfl, fun w hSw => ?_⟩) ?_
          · go_split_ands
            go_simp
          try simp only [Act.put, List.setIfInBounds_toArray, List.set_cons_zero, List.set_cons_succ]
          refine wpAnyL_take (i := 7) (oi := { dst := some 123, op := Go.Op.load 34 (Go.Operand.tmp 122), type := 34, pos := "law.go:207", after := #[{ on := 6, ground := Go.Ground.data }], guard := none }) (v := .agg #[.string kj.1, .string kj.2]) rfl (by kernel_rfl) (by kernel_rfl) (by kernel_rfl) (by kernel_rfl) (fun _ _ _ h => h) hS (Or.inl ⟨by rfl, fun w hSw => ?_⟩) ?_
          · go_split_ands
            go_simp
          try simp only [Act.put, List.setIfInBounds_toArray, List.set_cons_zero, List.set_cons_succ]
          refine wpAnyL_take0 (i := 8) (oi := { dst := some 124, op := Go.Op.move (Go.Operand.tmp 21), type := 64, pos := "law.go:207", after := #[], guard := none }) (v := .slice (some ⟨g, 0, none⟩) TL c16) rfl (by kernel_rfl) (by kernel_rfl) (by kernel_rfl) (by kernel_rfl) (fun _ _ _ h => h) hS (Or.inl ⟨by rfl, fun w hSw => ?_⟩) ?_
          · go_split_ands
            go_simp
          try simp only [Act.put, List.setIfInBounds_toArray, List.set_cons_zero, List.set_cons_succ]
          refine wpAnyL_take0 (i := 9) (oi := { dst := some 125, op := Go.Op.move (Go.Operand.tmp 22), type := 3, pos := "law.go:207", after := #[], guard := none }) (v := .int .i64 j) rfl (by kernel_rfl) (by kernel_rfl) (by kernel_rfl) (by kernel_rfl) (fun _ _ _ h => h) hS (Or.inl ⟨by rfl, fun w hSw => ?_⟩) ?_
          · go_split_ands
            go_simp
          try simp only [Act.put, List.setIfInBounds_toArray, List.set_cons_zero, List.set_cons_succ]
          refine wpAnyL_take0 (i := 10) (oi := { dst := some 126, op := Go.Op.indexAddr 64 (Go.Operand.tmp 124) (Go.Operand.tmp 125), type := 0, pos := "law.go:207", after := #[{ on := 8, ground := Go.Ground.data }, { on := 9, ground := Go.Ground.data }], guard := none }) (v := .pointer (some ⟨g, j * 2, none⟩)) rfl (by kernel_rfl) (by kernel_rfl) (by kernel_rfl) (by kernel_rfl) (fun _ _ _ h => h) hS (Or.inl ⟨by rfl, fun w hSw => ?_⟩) ?_
          · go_split_ands
            go_simp
          try simp only [Act.put, List.setIfInBounds_toArray, List.set_cons_zero, List.set_cons_succ]
          refine wpAnyL_take (i := 11) (oi := { dst := some 127, op := Go.Op.load 34 (Go.Operand.tmp 126), type := 34, pos := "law.go:207", after := #[{ on := 10, ground := Go.Ground.data }], guard := none }) (v := .agg #[.string kj.1, .string kj.2]) rfl (by kernel_rfl) (by kernel_rfl) (by kernel_rfl) (by kernel_rfl) (fun _ _ _ h => h) hS (Or.inl ⟨by rfl, fun w hSw => ?_⟩) ?_
          · go_split_ands
            go_simp
          try simp only [Act.put, List.setIfInBounds_toArray, List.set_cons_zero, List.set_cons_succ]
          refine wpAnyL_ready (rs := [12]) (by kernel_rfl) (by simp) ?_
          refine AllReadyL.cons (o := { dst := some 128, op := Go.Op.indexAddr 64 (Go.Operand.tmp 116) (Go.Operand.tmp 117), type := 0, pos := "law.go:207", after := #[{ on := 0, ground := Go.Ground.data }, { on := 1, ground := Go.Ground.data }, { on := 0, ground := Go.Ground.phase }, { on := 1, ground := Go.Ground.phase }, { on := 2, ground := Go.Ground.textOnly Go.Departure.lateStores }, { on := 3, ground := Go.Ground.textOnly Go.Departure.lateStores }, { on := 4, ground := Go.Ground.phase }, { on := 5, ground := Go.Ground.phase }, { on := 6, ground := Go.Ground.phase }, { on := 7, ground := Go.Ground.phase }, { on := 8, ground := Go.Ground.textOnly Go.Departure.lateStores }, { on := 9, ground := Go.Ground.textOnly Go.Departure.lateStores }, { on := 10, ground := Go.Ground.textOnly Go.Departure.lateStoresUnsure }, { on := 11, ground := Go.Ground.phase }], guard := none }) rfl (fun K hK => ?_) AllReadyL.nil
          go_simp
          refine hK.out _ _ (fun _ => hS) ?_
          clear hK K
          try simp only [Act.put, List.setIfInBounds_toArray, List.set_cons_zero, List.set_cons_succ]
          refine wpAnyL_ready (rs := [13]) (by kernel_rfl) (by simp) ?_
          refine AllReadyL.cons (o := { dst := none, op := Go.Op.store 34 (Go.Operand.tmp 128) (Go.Operand.tmp 123), type := 0, pos := "law.go:207", after := #[{ on := 12, ground := Go.Ground.data }, { on := 7, ground := Go.Ground.data }, { on := 0, ground := Go.Ground.phase }, { on := 1, ground := Go.Ground.phase }, { on := 2, ground := Go.Ground.textOnly Go.Departure.lateStores }, { on := 3, ground := Go.Ground.textOnly Go.Departure.lateStores }, { on := 4, ground := Go.Ground.phase }, { on := 5, ground := Go.Ground.phase }, { on := 6, ground := Go.Ground.phase }, { on := 7, ground := Go.Ground.phase }, { on := 8, ground := Go.Ground.textOnly Go.Departure.lateStores }, { on := 9, ground := Go.Ground.textOnly Go.Departure.lateStores }, { on := 10, ground := Go.Ground.textOnly Go.Departure.lateStoresUnsure }, { on := 11, ground := Go.Ground.phase }], guard := none }) rfl (fun K hK => ?_) AllReadyL.nil
          go_simp
          refine hK.out _ _ (late_no (by kernel_rfl)) ?_
          clear hK K
          try simp only [Act.put, List.setIfInBounds_toArray, List.set_cons_zero, List.set_cons_succ]
          refine wpAnyL_ready (rs := [14]) (by kernel_rfl) (by simp) ?_
          refine AllReadyL.cons (o := { dst := some 129, op := Go.Op.indexAddr 64 (Go.Operand.tmp 118) (Go.Operand.tmp 119), type := 0, pos := "law.go:207", after := #[{ on := 2, ground := Go.Ground.data }, { on := 3, ground := Go.Ground.data }, { on := 0, ground := Go.Ground.phase }, { on := 1, ground := Go.Ground.phase }, { on := 2, ground := Go.Ground.phase }, { on := 3, ground := Go.Ground.phase }, { on := 4, ground := Go.Ground.phase }, { on := 5, ground := Go.Ground.phase }, { on := 6, ground := Go.Ground.phase }, { on := 7, ground := Go.Ground.phase }, { on := 8, ground := Go.Ground.phase }, { on := 9, ground := Go.Ground.phase }, { on := 10, ground := Go.Ground.phase }, { on := 11, ground := Go.Ground.phase }, { on := 12, ground := Go.Ground.phase }, { on := 13, ground := Go.Ground.phase }], guard := none }) rfl (fun K hK => ?_) AllReadyL.nil
          go_simp
          refine hK.out _ _ (late_no (by kernel_rfl)) ?_
          clear hK K
          try simp only [Act.put, List.setIfInBounds_toArray, List.set_cons_zero, List.set_cons_succ]
          refine wpAnyL_ready (rs := [15]) (by kernel_rfl) (by simp) ?_
          refine AllReadyL.cons (o := { dst := none, op := Go.Op.store 34 (Go.Operand.tmp 129) (Go.Operand.tmp 127), type := 0, pos := "law.go:207", after := #[{ on := 14, ground := Go.Ground.data }, { on := 11, ground := Go.Ground.data }, { on := 13, ground := Go.Ground.chain }, { on := 0, ground := Go.Ground.phase }, { on := 1, ground := Go.Ground.phase }, { on := 2, ground := Go.Ground.phase }, { on := 3, ground := Go.Ground.phase }, { on := 4, ground := Go.Ground.phase }, { on := 5, ground := Go.Ground.phase }, { on := 6, ground := Go.Ground.phase }, { on := 7, ground := Go.Ground.phase }, { on := 8, ground := Go.Ground.phase }, { on := 9, ground := Go.Ground.phase }, { on := 10, ground := Go.Ground.phase }, { on := 11, ground := Go.Ground.phase }, { on := 12, ground := Go.Ground.phase }, { on := 13, ground := Go.Ground.phase }], guard := none }) rfl (fun K hK => ?_) AllReadyL.nil
          go_simp
          refine hK.out _ _ (late_no (by kernel_rfl)) ?_
          clear hK K
          try simp only [Act.put, List.setIfInBounds_toArray, List.set_cons_zero, List.set_cons_succ]
          refine wpAnyL_done (by kernel_rfl) ?_ _

          have hdr := (Below.refl ((((wr.setCell ⟨g, j * 2, none⟩ (.string kj.1)).setCell ⟨g, j * 2 + 1, none⟩ (.string kj.2)).setCell ⟨g, j * 2, none⟩ (.string kj.1)).setCell ⟨g, j * 2 + 1, none⟩ (.string kj.2)).heap.size ((((wr.setCell ⟨g, j * 2, none⟩ (.string kj.1)).setCell ⟨g, j * 2 + 1, none⟩ (.string kj.2)).setCell ⟨g, j * 2, none⟩ (.string kj.1)).setCell ⟨g, j * 2 + 1, none⟩ (.string kj.2))).drew
          have fO := HOT.out.below hdr
          have fB := HBB.out.drew
          clear hdr HOT HBB
          generalize ((((wr.setCell ⟨g, j * 2, none⟩ (.string kj.1)).setCell ⟨g, j * 2 + 1, none⟩ (.string kj.2)).setCell ⟨g, j * 2, none⟩ (.string kj.1)).setCell ⟨g, j * 2 + 1, none⟩ (.string kj.2)).drew = W9 at *
          go_wp2_with fail
          exact ⟨⟨j + 1, T2, by omega, by go_num, hT2l, HT2.out, fO, fB⟩, by simp [RowKit.intOf]; omega⟩

        · have q1 : ¬ (j * 2 = J * 2) := by omega
          have q2 : ¬ (J * 2 = j * 2) := by omega
          have q3 : ¬ (j * 2 + 1 = J * 2) := by omega
          have q4 : ¬ (J * 2 = j * 2 + 1) := by omega
          have q5 : ¬ (j * 2 = J * 2 + 1) := by omega
          have q6 : ¬ (J * 2 + 1 = j * 2) := by omega
          have q7 : ¬ (j * 2 + 1 = J * 2 + 1) := by omega
          have q8 : ¬ (J * 2 + 1 = j * 2 + 1) := by omega
          have q9 : ¬ (J = j) := fun e => hij e.symm
          clear hjj
          go_upto_region 32 with (fail)
          refine wp_region_late (S := fun w' => w'.cell? ⟨g, J * 2, none⟩ = some (.string kj.1) ∧ w'.cell? ⟨g, J * 2 + 1, none⟩ = some (.string kj.2) ∧ w'.cell? ⟨g, j * 2, none⟩ = some (.string ki.1) ∧ w'.cell? ⟨g, j * 2 + 1, none⟩ = some (.string ki.2)) (st := 13) (by kernel_rfl) ?_
          have hS : (fun w' : World => w'.cell? ⟨g, J * 2, none⟩ = some (.string kj.1) ∧ w'.cell? ⟨g, J * 2 + 1, none⟩ = some (.string kj.2) ∧ w'.cell? ⟨g, j * 2, none⟩ = some (.string ki.1) ∧ w'.cell? ⟨g, j * 2 + 1, none⟩ = some (.string ki.2)) wr.drew := ⟨zj0, zj1, zi0, zi1⟩
          refine wpAnyL_take0 (i := 0) (oi := { dst := some 116, op := Go.Op.move (Go.Operand.tmp 21), type := 64, pos := "law.go:207", after := #[], guard := none }) (v := .slice (some ⟨g, 0, none⟩) TL c16) rfl (by kernel_rfl) (by kernel_rfl) (by kernel_rfl) (by kernel_rfl) (fun _ _ _ h => h) hS (Or.inl ⟨by rfl, fun w hSw => ?_⟩) ?_
          · go_split_ands
            go_simp
          try simp only [Act.put, List.setIfInBounds_toArray, List.set_cons_zero, List.set_cons_succ]
          refine wpAnyL_take0 (i := 1) (oi := { dst := some 117, op := Go.Op.move (Go.Operand.tmp 22), type := 3, pos := "law.go:207", after := #[], guard := none }) (v := .int .i64 j) rfl (by kernel_rfl) (by kernel_rfl) (by kernel_rfl) (by kernel_rfl) (fun _ _ _ h => h) hS (Or.inl ⟨by rfl, fun w hSw => ?_⟩) ?_
          · go_split_ands
            go_simp
          try simp only [Act.put, List.setIfInBounds_toArray, List.set_cons_zero, List.set_cons_succ]
          refine wpAnyL_take0 (i := 2) (oi := { dst := some 118, op := Go.Op.move (Go.Operand.tmp 21), type := 64, pos := "law.go:207", after := #[{ on := 13, ground := Go.Ground.gcOnly Go.Departure.lateStores }], guard := none }) (v := .slice (some ⟨g, 0, none⟩) TL c16) rfl (by kernel_rfl) (by kernel_rfl) (by kernel_rfl) (by kernel_rfl) (fun _ _ _ h => h) hS (Or.inl ⟨by rfl, fun w hSw => ?_⟩) ?_
          · go_split_ands
            go_simp
          try simp only [Act.put, List.setIfInBounds_toArray, List.set_cons_zero, List.set_cons_succ]
          refine wpAnyL_take0 (i := 3) (oi := { dst := some 119, op := Go.Op.move (Go.Operand.tmp 23), type := 3, pos := "law.go:207", after := #[{ on := 13, ground := Go.Ground.gcOnly Go.Departure.lateStores }], guard := none }) (v := .int .i64 J) rfl (by kernel_rfl) (by kernel_rfl) (by kernel_rfl) (by kernel_rfl) (fun _ _ _ h => h) hS (Or.inl ⟨by rfl, fun w hSw => ?_⟩) ?_
          · go_split_ands
            go_simp
          try simp only [Act.put, List.setIfInBounds_toArray, List.set_cons_zero, List.set_cons_succ]
          refine wpAnyL_take0 (i := 4) (oi := { dst := some 120, op := Go.Op.move (Go.Operand.tmp 21), type := 64, pos := "law.go:207", after := #[], guard := none }) (v := .slice (some ⟨g, 0, none⟩) TL c16) rfl (by kernel_rfl) (by kernel_rfl) (by kernel_rfl) (by kernel_rfl) (fun _ _ _ h => h) hS (Or.inl ⟨by rfl, fun w hSw => ?_⟩) ?_
          · go_split_ands
            go_simp
          try simp only [Act.put, List.setIfInBounds_toArray, List.set_cons_zero, List.set_cons_succ]
          refine wpAnyL_take0 (i := 5) (oi := { dst := some 121, op := Go.Op.move (Go.Operand.tmp 23), type := 3, pos := "law.go:207", after := #[], guard := none }) (v := .int .i64 J) rfl (by kernel_rfl) (by kernel_rfl) (by kernel_rfl) (by kernel_rfl) (fun _ _ _ h => h) hS (Or.inl ⟨by rfl, fun w hSw => ?_⟩) ?_
          · go_split_ands
            go_simp
          try simp only [Act.put, List.setIfInBounds_toArray, List.set_cons_zero, List.set_cons_succ]
          refine wpAnyL_take0 (i := 6) (oi := { dst := some 122, op := Go.Op.indexAddr 64 (Go.Operand.tmp 120) (Go.Operand.tmp 121), type := 0, pos := "law.go:207", after := #[{ on := 4, ground := Go.Ground.data }, { on := 5, ground := Go.Ground.data }], guard := none }) (v := .pointer (some ⟨g, J * 2, none⟩)) rfl (by kernel_rfl) (by kernel_rfl) (by kernel_rfl) (by kernel_rfl) (fun _ _ _ h => h) hS (Or.inl ⟨by rfl, fun w hSw => ?_⟩) ?_
          · go_split_ands
            go_simp
          try simp only [Act.put, List.setIfInBounds_toArray, List.set_cons_zero, List.set_cons_succ]
          refine wpAnyL_take (i := 7) (oi := { dst := some 123, op := Go.Op.load 34 (Go.Operand.tmp 122), type := 34, pos := "law.go:207", after := #[{ on := 6, ground := Go.Ground.data }], guard := none }) (v := .agg #[.string kj.1, .string kj.2]) rfl (by kernel_rfl) (by kernel_rfl) (by kernel_rfl) (by kernel_rfl) (fun _ _ _ h => h) hS (Or.inl ⟨by rfl, fun w hSw => ?_⟩) ?_
          · go_split_ands
            go_simp
          try simp only [Act.put, List.setIfInBounds_toArray, List.set_cons_zero, List.set_cons_succ]
          refine wpAnyL_take0 (i := 8) (oi := { dst := some 124, op := Go.Op.move (Go.Operand.tmp 21), type := 64, pos := "law.go:207", after := #[], guard := none }) (v := .slice (some ⟨g, 0, none⟩) TL c16) rfl (by kernel_rfl) (by kernel_rfl) (by kernel_rfl) (by kernel_rfl) (fun _ _ _ h => h) hS (Or.inl ⟨by rfl, fun w hSw => ?_⟩) ?_
          · go_split_ands
            go_simp
          try simp only [Act.put, List.setIfInBounds_toArray, List.set_cons_zero, List.set_cons_succ]
          refine wpAnyL_take0 (i := 9) (oi := { dst := some 125, op := Go.Op.move (Go.Operand.tmp 22), type := 3, pos := "law.go:207", after := #[], guard := none }) (v := .int .i64 j) rfl (by kernel_rfl) (by kernel_rfl) (by kernel_rfl) (by kernel_rfl) (fun _ _ _ h => h) hS (Or.inl ⟨by rfl, fun w hSw => ?_⟩) ?_
          · go_split_ands
            go_simp
          try simp only [Act.put, List.setIfInBounds_toArray, List.set_cons_zero, List.set_cons_succ]
          refine wpAnyL_take0 (i := 10) (oi := { dst := some 126, op := Go.Op.indexAddr 64 (Go.Operand.tmp 124) (Go.Operand.tmp 125), type := 0, pos := "law.go:207", after := #[{ on := 8, ground := Go.Ground.data }, { on := 9, ground := Go.Ground.data }], guard := none }) (v := .pointer (some ⟨g, j * 2, none⟩)) rfl (by kernel_rfl) (by kernel_rfl) (by kernel_rfl) (by kernel_rfl) (fun _ _ _ h => h) hS (Or.inl ⟨by rfl, fun w hSw => ?_⟩) ?_
          · go_split_ands
            go_simp
          try simp only [Act.put, List.setIfInBounds_toArray, List.set_cons_zero, List.set_cons_succ]
          refine wpAnyL_take (i := 11) (oi := { dst := some 127, op := Go.Op.load 34 (Go.Operand.tmp 126), type := 34, pos := "law.go:207", after := #[{ on := 10, ground := Go.Ground.data }], guard := none }) (v := .agg #[.string ki.1, .string ki.2]) rfl (by kernel_rfl) (by kernel_rfl) (by kernel_rfl) (by kernel_rfl) (fun _ _ _ h => h) hS (Or.inl ⟨by rfl, fun w hSw => ?_⟩) ?_
          · go_split_ands
            go_simp
          try simp only [Act.put, List.setIfInBounds_toArray, List.set_cons_zero, List.set_cons_succ]
          refine wpAnyL_ready (rs := [12]) (by kernel_rfl) (by simp) ?_
          refine AllReadyL.cons (o := { dst := some 128, op := Go.Op.indexAddr 64 (Go.Operand.tmp 116) (Go.Operand.tmp 117), type := 0, pos := "law.go:207", after := #[{ on := 0, ground := Go.Ground.data }, { on := 1, ground := Go.Ground.data }, { on := 0, ground := Go.Ground.phase }, { on := 1, ground := Go.Ground.phase }, { on := 2, ground := Go.Ground.textOnly Go.Departure.lateStores }, { on := 3, ground := Go.Ground.textOnly Go.Departure.lateStores }, { on := 4, ground := Go.Ground.phase }, { on := 5, ground := Go.Ground.phase }, { on := 6, ground := Go.Ground.phase }, { on := 7, ground := Go.Ground.phase }, { on := 8, ground := Go.Ground.textOnly Go.Departure.lateStores }, { on := 9, ground := Go.Ground.textOnly Go.Departure.lateStores }, { on := 10, ground := Go.Ground.textOnly Go.Departure.lateStoresUnsure }, { on := 11, ground := Go.Ground.phase }], guard := none }) rfl (fun K hK => ?_) AllReadyL.nil
          go_simp
          refine hK.out _ _ (fun _ => hS) ?_
          clear hK K
          try simp only [Act.put, List.setIfInBounds_toArray, List.set_cons_zero, List.set_cons_succ]
          refine wpAnyL_ready (rs := [13]) (by kernel_rfl) (by simp) ?_
          refine AllReadyL.cons (o := { dst := none, op := Go.Op.store 34 (Go.Operand.tmp 128) (Go.Operand.tmp 123), type := 0, pos := "law.go:207", after := #[{ on := 12, ground := Go.Ground.data }, { on := 7, ground := Go.Ground.data }, { on := 0, ground := Go.Ground.phase }, { on := 1, ground := Go.Ground.phase }, { on := 2, ground := Go.Ground.textOnly Go.Departure.lateStores }, { on := 3, ground := Go.Ground.textOnly Go.Departure.lateStores }, { on := 4, ground := Go.Ground.phase }, { on := 5, ground := Go.Ground.phase }, { on := 6, ground := Go.Ground.phase }, { on := 7, ground := Go.Ground.phase }, { on := 8, ground := Go.Ground.textOnly Go.Departure.lateStores }, { on := 9, ground := Go.Ground.textOnly Go.Departure.lateStores }, { on := 10, ground := Go.Ground.textOnly Go.Departure.lateStoresUnsure }, { on := 11, ground := Go.Ground.phase }], guard := none }) rfl (fun K hK => ?_) AllReadyL.nil
          go_simp
          refine hK.out _ _ (late_no (by kernel_rfl)) ?_
          clear hK K
          try simp only [Act.put, List.setIfInBounds_toArray, List.set_cons_zero, List.set_cons_succ]
          refine wpAnyL_ready (rs := [14]) (by kernel_rfl) (by simp) ?_
          refine AllReadyL.cons (o := { dst := some 129, op := Go.Op.indexAddr 64 (Go.Operand.tmp 118) (Go.Operand.tmp 119), type := 0, pos := "law.go:207", after := #[{ on := 2, ground := Go.Ground.data }, { on := 3, ground := Go.Ground.data }, { on := 0, ground := Go.Ground.phase }, { on := 1, ground := Go.Ground.phase }, { on := 2, ground := Go.Ground.phase }, { on := 3, ground := Go.Ground.phase }, { on := 4, ground := Go.Ground.phase }, { on := 5, ground := Go.Ground.phase }, { on := 6, ground := Go.Ground.phase }, { on := 7, ground := Go.Ground.phase }, { on := 8, ground := Go.Ground.phase }, { on := 9, ground := Go.Ground.phase }, { on := 10, ground := Go.Ground.phase }, { on := 11, ground := Go.Ground.phase }, { on := 12, ground := Go.Ground.phase }, { on := 13, ground := Go.Ground.phase }], guard := none }) rfl (fun K hK => ?_) AllReadyL.nil
          go_simp
          refine hK.out _ _ (late_no (by kernel_rfl)) ?_
          clear hK K
          try simp only [Act.put, List.setIfInBounds_toArray, List.set_cons_zero, List.set_cons_succ]
          refine wpAnyL_ready (rs := [15]) (by kernel_rfl) (by simp) ?_
          refine AllReadyL.cons (o := { dst := none, op := Go.Op.store 34 (Go.Operand.tmp 129) (Go.Operand.tmp 127), type := 0, pos := "law.go:207", after := #[{ on := 14, ground := Go.Ground.data }, { on := 11, ground := Go.Ground.data }, { on := 13, ground := Go.Ground.chain }, { on := 0, ground := Go.Ground.phase }, { on := 1, ground := Go.Ground.phase }, { on := 2, ground := Go.Ground.phase }, { on := 3, ground := Go.Ground.phase }, { on := 4, ground := Go.Ground.phase }, { on := 5, ground := Go.Ground.phase }, { on := 6, ground := Go.Ground.phase }, { on := 7, ground := Go.Ground.phase }, { on := 8, ground := Go.Ground.phase }, { on := 9, ground := Go.Ground.phase }, { on := 10, ground := Go.Ground.phase }, { on := 11, ground := Go.Ground.phase }, { on := 12, ground := Go.Ground.phase }, { on := 13, ground := Go.Ground.phase }], guard := none }) rfl (fun K hK => ?_) AllReadyL.nil
          go_simp
          refine hK.out _ _ (late_no (by kernel_rfl)) ?_
          clear hK K
          try simp only [Act.put, List.setIfInBounds_toArray, List.set_cons_zero, List.set_cons_succ]
          refine wpAnyL_done (by kernel_rfl) ?_ _

          have hdr := (Below.refl ((((wr.setCell ⟨g, j * 2, none⟩ (.string kj.1)).setCell ⟨g, j * 2 + 1, none⟩ (.string kj.2)).setCell ⟨g, J * 2, none⟩ (.string ki.1)).setCell ⟨g, J * 2 + 1, none⟩ (.string ki.2)).heap.size ((((wr.setCell ⟨g, j * 2, none⟩ (.string kj.1)).setCell ⟨g, j * 2 + 1, none⟩ (.string kj.2)).setCell ⟨g, J * 2, none⟩ (.string ki.1)).setCell ⟨g, J * 2 + 1, none⟩ (.string ki.2))).drew
          have fO := HOT.out.below hdr
          have fB := HBB.out.drew
          clear hdr HOT HBB
          generalize ((((wr.setCell ⟨g, j * 2, none⟩ (.string kj.1)).setCell ⟨g, j * 2 + 1, none⟩ (.string kj.2)).setCell ⟨g, J * 2, none⟩ (.string ki.1)).setCell ⟨g, J * 2 + 1, none⟩ (.string ki.2)).drew = W9 at *
          go_wp2_with fail
          exact ⟨⟨j + 1, T2, by omega, by go_num, hT2l, HT2.out, fO, fB⟩, by simp [RowKit.intOf]; omega⟩

      · have L3 : ¬ ((j : Int) < (len2 : Int)) := by omega
        clear HR2
        go_wp2_with fail
        exact ⟨⟨j + 1, T, by omega, by go_num, hlT, HTS.out, hOt, hB⟩, by simp [RowKit.intOf]; omega⟩
    · obtain rfl : j = TL := by omega
      have G : ¬ ((j : Int) < (j : Int)) := by omega
      obtain ⟨A', c', e', hR, -⟩ := hOt.lie
      simp only [Value.slice.injEq] at e'
      obtain ⟨rfl, e2, rfl⟩ := e'
      have HFF := Lib.hid (HF.out wr T A16 c16 hB hR (hlT.trans HTL.out) HTS.out)
      rw [hlT] at HFF
      clear HF hOt HR2 hB e2 hlT hR HTL
      repeat (first | exact HFF.out _ _ _ _ _ _ _ _ _ _ _ _ _ _ _ _ _ _ _ _ _ _ _ _ _ _ _ _ _ _ _ _ _ _ _ _ _ _ _ _ _ _ _ _ _ _ _ _ _ _ _ _ _ _ _ _ _ _ _ _ _ _ _ _ _ _ _ _ _ _ _ _ _ _ _ _ _ _ _ _ _ _ _ _ _ _ _ _ _ _ _ _ _ _ _ _ _ _ _ _ _ _ _ _ _ _ _ _ _ _ _ _ _ _ _ _ _ _ _ _ _ _ _ _ _ _ _ _ _ _ _ _ _ _ _ _ _ _ _ _ _ _ _ _ _ _ _ _ _ _ _ _ _ _ _ _ _ _ _ _ _ _ _ _ _ _ _ _ _ _ _ _ _ _ _ _ _ _ _ _ _ _ _ _ _ _ _ _ _ _ _ _ _ _ _ _ _ _ _ _ _ _ _ _ _ | go_step)
end Go.Proofs.Ytchimfgbdfmegaa.radixOrders
/- RadixOrders, part by part. -/
namespace Go.Proofs.Ytchimfgbdfmegaa.radixOrders
open Go.ChangeShapes Go.WideShapes Go.RowKit Go.Lib
set_option linter.unusedVariables false
set_option linter.unnecessarySimpa false
set_option linter.unusedSimpArgs false
set_option linter.unnecessarySimpa false
set_option maxRecDepth 100000
noncomputable def ord26 : Code := (Try.f7.body.bind (fromRegion 26)).getD .skip
set_option maxHeartbeats 8000000 in
theorem ord26_any (post : Ending → World → Prop) (w0 w : World) (bn bm bo : Nat) (S Y : List Pr) (A9 Ax Ay : Option Addr) (c9 cx cy : Nat)
    (hO : OB w0 w bn bo S Y A9 Ax Ay) (hcx : S.length ≤ cx) (hlS : S.length ≤ 30) (hlY : Y.length ≤ 30) (hpost : ∀ w', Below w0.heap.size w0 w' → post (.returned (.bool true)) w') (hrS : RisesL S) (a2 : Option Addr) (len2 cap2 : Nat) (zs : List Int) (hrow : IsRow .u8 w0 a2 len2 cap2 zs) (a3 : Option Addr) (len3 cap3 : Nat) (ps3 : List Pr) (hp3 : ArgP w0 a3 len3 cap3 ps3) (hTm : PW w bm []) (hzS : ∀ x ∈ S, x.1.size ≤ 40 ∧ x.2.size ≤ 40) (hc9 : A9 = none → c9 = 0 ∧ S = []) (x0 x3 x4 x5 x6 x7 x8 x10 x11 x17 x18 x19 x20 x21 x22 x23 x24 x25 x26 x27 x28 x29 x30 x31 x32 x33 x34 x35 x36 x37 x38 x39 x40 x41 x42 x43 x44 x45 x46 x47 x48 x49 x50 x51 x52 x53 x54 x55 x56 x57 x58 x59 x60 x61 x62 x63 x64 x65 x66 x67 x68 x69 x70 x71 x72 x73 x74 x75 x76 x77 x78 x79 x80 x81 x82 x83 x84 x85 x86 x87 x88 x89 x90 x91 x92 x93 x94 x95 x96 x97 x98 x99 x100 x101 x102 x103 x104 x105 x106 x107 x108 x109 x110 x111 x112 x113 x114 x115 x116 x117 x118 x119 x120 x121 x122 x123 x124 x125 x126 x127 x128 x129 x130 x131 x132 x133 x134 x135 x136 x137 x138 x139 x140 x141 x142 x143 x144 x145 x146 x147 x148 x149 x150 x151 x152 x153 x154 x155 x156 x157 x158 x159 x160 x161 x162 x163 x164 x165 x166 x167 x168 x169 x170 x171 x172 x173 x174 x175 x176 x177 x178 x179 x180 x181 x182 x183 x184 x185 x186 x187 x188 x189 x190 x191 x192 x193 x194 x195 x196 x197 x198 x199 x200 x201 x202 x203 x204 x205 x206 x207 x208 x209 x210 x211 x212 : Value) :
    Code.wp Try.prog ord26 (bodyPost Try.prog Try.f7 post) ⟨#[x0, .slice a2 len2 cap2, .slice a3 len3 cap3, x3, x4, x5, x6, x7, x8, .slice A9 S.length c9, x10, x11, .pointer (some ⟨bn, 0, none⟩), .pointer (some ⟨bm, 0, none⟩), .pointer (some ⟨bo, 0, none⟩), .slice Ax S.length cx, .slice Ay Y.length cy, x17, x18, x19, x20, x21, x22, x23, x24, x25, x26, x27, x28, x29, x30, x31, x32, x33, x34, x35, x36, x37, x38, x39, x40, x41, x42, x43, x44, x45, x46, x47, x48, x49, x50, x51, x52, x53, x54, x55, x56, x57, x58, x59, x60, x61, x62, x63, x64, x65, x66, x67, x68, x69, x70, x71, x72, x73, x74, x75, x76, x77, x78, x79, x80, x81, x82, x83, x84, x85, x86, x87, x88, x89, x90, x91, x92, x93, x94, x95, x96, x97, x98, x99, x100, x101, x102, x103, x104, x105, x106, x107, x108, x109, x110, x111, x112, x113, x114, x115, x116, x117, x118, x119, x120, x121, x122, x123, x124, x125, x126, x127, x128, x129, x130, x131, x132, x133, x134, x135, x136, x137, x138, x139, x140, x141, x142, x143, x144, x145, x146, x147, x148, x149, x150, x151, x152, x153, x154, x155, x156, x157, x158, x159, x160, x161, x162, x163, x164, x165, x166, x167, x168, x169, x170, x171, x172, x173, x174, x175, x176, x177, x178, x179, x180, x181, x182, x183, x184, x185, x186, x187, x188, x189, x190, x191, x192, x193, x194, x195, x196, x197, x198, x199, x200, x201, x202, x203, x204, x205, x206, x207, x208, x209, x210, x211, x212], []⟩ w := by
  obtain ⟨i34, hi34, hy340, hy341, hy342⟩ := info_parts info33
  have HF := Lib.hid (fun w2 hB12 T0 TL A16 c16 hOt hlT hTL hTS => ord27_any post w0 w bn bm bo S Y A9 Ax Ay c9 cx cy hO hcx hlS hlY hpost hrS a2 len2 cap2 zs hrow a3 len3 cap3 ps3 hp3 hTm hzS w2 hB12 T0 TL A16 c16 hOt hlT hTL hTS)
  have hBl := (Below.refl _ w).alloc (Nat.le_refl _) (.cells #[] 34)
  have hlit : (w.alloc (.cells #[] 34)).ownsRow w.heap.size 34 2 (.slice (some ⟨w.heap.size, 0, none⟩) 0 0) 0 [] := own_lit w
  have hsz := hBl.size
  have HBl := Lib.hid hBl
  have hR2 := hO.hR9.below hBl
  clear hpost hp3 hTm hrow hBl hO
  simp only []
  conv => arg 2; whnf
  cases A9 with
  | none =>
    obtain ⟨rfl, rfl⟩ := hc9 rfl
    simp only [List.length_nil]
    clear hR2 hc9
    have HFF := Lib.hid (HF.out _ HBl.out [] 0 _ _ hlit rfl rfl (fun p => Iff.rfl))
    clear HF HBl
    repeat (first | (at_builtin; refine wpList_append_own_none rfl _ _ 64 rfl w.heap.size 34 i34 2 Try.underlying64 hi34 _ _ _ rfl hlit rfl ?_; repeat (first | exact HFF.out _ _ _ _ _ _ _ _ _ _ _ _ _ _ _ _ _ _ _ _ _ _ _ _ _ _ _ _ _ _ _ _ _ _ _ _ _ _ _ _ _ _ _ _ _ _ _ _ _ _ _ _ _ _ _ _ _ _ _ _ _ _ _ _ _ _ _ _ _ _ _ _ _ _ _ _ _ _ _ _ _ _ _ _ _ _ _ _ _ _ _ _ _ _ _ _ _ _ _ _ _ _ _ _ _ _ _ _ _ _ _ _ _ _ _ _ _ _ _ _ _ _ _ _ _ _ _ _ _ _ _ _ _ _ _ _ _ _ _ _ _ _ _ _ _ _ _ _ _ _ _ _ _ _ _ _ _ _ _ _ _ _ _ _ _ _ _ _ _ _ _ _ _ _ _ _ _ _ _ _ _ _ _ _ _ _ _ _ _ _ _ _ _ _ _ _ _ _ _ _ _ _ _ _ | go_step)) | go_step)
  | some a9 =>
    by_cases hS0 : S.length = 0
    · have hS : S = [] := List.length_eq_zero_iff.1 hS0
      subst hS
      simp only [List.length_nil]
      clear hR2 hc9
      repeat (first | (at_builtin; refine wpList_append_own_at _ rfl _ _ 64 rfl w.heap.size 34 i34 _ 2 32 Try.underlying64 hi34 hy340 hy341 hy342 zsz_pr (by decide) _ _ _ rfl hlit a9 0 c9 [] rfl rfl (by simp) (by simp) (by unfold maxLen; omega) (by omega) hsz ?_; intro v' wa hown' hgrow hnil hat; obtain ⟨A', c', rfl⟩ := own_formN hown'; have hBg := HBl.out.grown hgrow hsz (own_ge hlit); have HFF := Lib.hid (HF.out _ hBg [] 0 A' c' hown' rfl rfl (fun p => Iff.rfl)); clear HF HBl hlit hown' hgrow hnil hat; repeat (first | exact HFF.out _ _ _ _ _ _ _ _ _ _ _ _ _ _ _ _ _ _ _ _ _ _ _ _ _ _ _ _ _ _ _ _ _ _ _ _ _ _ _ _ _ _ _ _ _ _ _ _ _ _ _ _ _ _ _ _ _ _ _ _ _ _ _ _ _ _ _ _ _ _ _ _ _ _ _ _ _ _ _ _ _ _ _ _ _ _ _ _ _ _ _ _ _ _ _ _ _ _ _ _ _ _ _ _ _ _ _ _ _ _ _ _ _ _ _ _ _ _ _ _ _ _ _ _ _ _ _ _ _ _ _ _ _ _ _ _ _ _ _ _ _ _ _ _ _ _ _ _ _ _ _ _ _ _ _ _ _ _ _ _ _ _ _ _ _ _ _ _ _ _ _ _ _ _ _ _ _ _ _ _ _ _ _ _ _ _ _ _ _ _ _ _ _ _ _ _ _ _ _ _ _ _ _ _ | go_step)) | go_step)
    · obtain ⟨g, off, e⟩ := hR2.starts (by omega)
      cases e
      have hcl := hR2.cells
      obtain ⟨SL, hSL⟩ : ∃ SL, SL = S.length := ⟨_, rfl⟩
      have hfl : (flat S).length = SL * 2 := by rw [flat_length, hSL]
      have hone : ∀ u ∈ flat S, u.oneCell' = true := fun u hu => by
        obtain ⟨p, _, hp⟩ := List.mem_flatMap.1 (show u ∈ S.flatMap fun p => [.string p.1, .string p.2] from hu)
        simp at hp
        rcases hp with rfl | rfl <;> rfl
      have hSL30 : SL ≤ 30 := by omega
      rw [← hSL]
      have HSL := Lib.hid hSL
      clear hSL hR2 hc9 hS0
      have HFS := Lib.hid (fun w2 hB12 A16 c16 hOt => by have h := HF.out w2 hB12 S SL A16 c16 hOt HSL.out.symm HSL.out (fun p => Iff.rfl); rw [← HSL.out] at h; exact h)
      clear HF
      repeat (first | (at_builtin; refine wpList_append_own_at _ rfl _ _ 64 rfl w.heap.size 34 i34 _ 2 32 Try.underlying64 hi34 hy340 hy341 hy342 zsz_pr (by decide) _ _ _ rfl hlit ⟨g, off, none⟩ SL c9 (flat S) rfl hfl hcl hone (by unfold maxLen; omega) (by omega) hsz ?_) | go_step)
      intro v' wa hown' hgrow hnil hat
      rw [Nat.zero_add, List.nil_append] at hown'
      obtain ⟨A', c', rfl⟩ := own_formN hown'
      have hBg := HBl.out.grown hgrow hsz (own_ge hlit)
      have hOwn : Own w.heap.size wa (.slice A' SL c') S := by
        unfold Own
        rw [← HSL.out]
        exact hown'
      have HFF := Lib.hid (HFS.out _ hBg A' c' hOwn)
      clear HFS HBl hlit hown' hgrow hnil hat hOwn hcl hone hfl
      repeat (first | exact HFF.out _ _ _ _ _ _ _ _ _ _ _ _ _ _ _ _ _ _ _ _ _ _ _ _ _ _ _ _ _ _ _ _ _ _ _ _ _ _ _ _ _ _ _ _ _ _ _ _ _ _ _ _ _ _ _ _ _ _ _ _ _ _ _ _ _ _ _ _ _ _ _ _ _ _ _ _ _ _ _ _ _ _ _ _ _ _ _ _ _ _ _ _ _ _ _ _ _ _ _ _ _ _ _ _ _ _ _ _ _ _ _ _ _ _ _ _ _ _ _ _ _ _ _ _ _ _ _ _ _ _ _ _ _ _ _ _ _ _ _ _ _ _ _ _ _ _ _ _ _ _ _ _ _ _ _ _ _ _ _ _ _ _ _ _ _ _ _ _ _ _ _ _ _ _ _ _ _ _ _ _ _ _ _ _ _ _ _ _ _ _ _ _ _ _ _ _ _ _ _ _ _ _ _ _ | go_step)
end Go.Proofs.Ytchimfgbdfmegaa.radixOrders
/- RadixOrders, part by part. -/
namespace Go.Proofs.Ytchimfgbdfmegaa.radixOrders
open Go.ChangeShapes Go.WideShapes Go.RowKit Go.Lib
set_option linter.unusedVariables false
set_option linter.unnecessarySimpa false
set_option linter.unusedSimpArgs false
set_option linter.unnecessarySimpa false
set_option maxRecDepth 100000
noncomputable def ord19 : Code := (Try.f7.body.bind (fromRegion 19)).getD .skip
set_option maxHeartbeats 8000000 in
theorem ord19_any (post : Ending → World → Prop) (w0 w : World) (bn bm bo : Nat) (S : List Pr) (A9 Ax : Option Addr) (c9 cx : Nat)
    (hO : OB w0 w bn bo S [] A9 Ax none) (hcx : S.length ≤ cx) (hlS : S.length ≤ 30) (hpost : ∀ w', Below w0.heap.size w0 w' → post (.returned (.bool true)) w') (hrS : RisesL S) (a2 : Option Addr) (len2 cap2 : Nat) (zs : List Int) (hrow : IsRow .u8 w0 a2 len2 cap2 zs) (a3 : Option Addr) (len3 cap3 : Nat) (ps3 : List Pr) (hp3 : ArgP w0 a3 len3 cap3 ps3) (a4 : Option Addr) (len4 cap4 : Nat) (ps4 : List Pr) (hp4 : ArgP w0 a4 len4 cap4 ps4) (hTm : PW w bm []) (hzS : ∀ x ∈ S, x.1.size ≤ 40 ∧ x.2.size ≤ 40) (hc9 : A9 = none → c9 = 0 ∧ S = []) (x0 x4 x5 x6 x7 x8 x10 x11 x17 x18 x19 x20 x21 x22 x23 x24 x25 x26 x27 x28 x29 x30 x31 x32 x33 x34 x35 x36 x37 x38 x39 x40 x41 x42 x43 x44 x45 x46 x47 x48 x49 x50 x51 x52 x53 x54 x55 x56 x57 x58 x59 x60 x61 x62 x63 x64 x65 x66 x67 x68 x69 x70 x71 x72 x73 x74 x75 x76 x77 x78 x79 x80 x81 x82 x83 x84 x85 x86 x87 x88 x89 x90 x91 x92 x93 x94 x95 x96 x97 x98 x99 x100 x101 x102 x103 x104 x105 x106 x107 x108 x109 x110 x111 x112 x113 x114 x115 x116 x117 x118 x119 x120 x121 x122 x123 x124 x125 x126 x127 x128 x129 x130 x131 x132 x133 x134 x135 x136 x137 x138 x139 x140 x141 x142 x143 x144 x145 x146 x147 x148 x149 x150 x151 x152 x153 x154 x155 x156 x157 x158 x159 x160 x161 x162 x163 x164 x165 x166 x167 x168 x169 x170 x171 x172 x173 x174 x175 x176 x177 x178 x179 x180 x181 x182 x183 x184 x185 x186 x187 x188 x189 x190 x191 x192 x193 x194 x195 x196 x197 x198 x199 x200 x201 x202 x203 x204 x205 x206 x207 x208 x209 x210 x211 x212 : Value) :
    Code.wp Try.prog ord19 (bodyPost Try.prog Try.f7 post) ⟨#[x0, .slice a2 len2 cap2, .slice a3 len3 cap3, .slice a4 len4 cap4, x4, x5, x6, x7, x8, .slice A9 S.length c9, x10, x11, .pointer (some ⟨bn, 0, none⟩), .pointer (some ⟨bm, 0, none⟩), .pointer (some ⟨bo, 0, none⟩), .slice Ax S.length cx, .slice none 0 0, x17, x18, x19, x20, x21, x22, x23, x24, x25, x26, x27, x28, x29, x30, x31, x32, x33, x34, x35, x36, x37, x38, x39, x40, x41, x42, x43, x44, x45, x46, x47, x48, x49, x50, x51, x52, x53, x54, x55, x56, x57, x58, x59, x60, x61, x62, x63, x64, x65, x66, x67, x68, x69, x70, x71, x72, x73, x74, x75, x76, x77, x78, x79, x80, x81, x82, x83, x84, x85, x86, x87, x88, x89, x90, x91, x92, x93, x94, x95, x96, x97, x98, x99, x100, x101, x102, x103, x104, x105, x106, x107, x108, x109, x110, x111, x112, x113, x114, x115, x116, x117, x118, x119, x120, x121, x122, x123, x124, x125, x126, x127, x128, x129, x130, x131, x132, x133, x134, x135, x136, x137, x138, x139, x140, x141, x142, x143, x144, x145, x146, x147, x148, x149, x150, x151, x152, x153, x154, x155, x156, x157, x158, x159, x160, x161, x162, x163, x164, x165, x166, x167, x168, x169, x170, x171, x172, x173, x174, x175, x176, x177, x178, x179, x180, x181, x182, x183, x184, x185, x186, x187, x188, x189, x190, x191, x192, x193, x194, x195, x196, x197, x198, x199, x200, x201, x202, x203, x204, x205, x206, x207, x208, x209, x210, x211, x212], []⟩ w := by
  have HF := Lib.hid (fun wr bo (Y : List Pr) Ay cy hO hlY hTm => ord26_any post w0 wr bn bm bo S Y A9 Ax Ay c9 cx cy hO hcx hlS hlY hpost hrS a2 len2 cap2 zs hrow a3 len3 cap3 ps3 hp3 hTm hzS hc9)
  have hl4 := hp4.len_leR
  have HA4 := Lib.hid hp4
  clear hpost hp3 hrow hp4
  simp only []
  conv => arg 2; whnf
  go_wp2_with fail
  go_loopw [14, 16, 73] (fun v14 v16 vi wr => ∃ (j bq : Nat) (Y : List Pr) (Ay : Option Addr) (cy : Nat), j ≤ len4 ∧ vi = .int .i64 j ∧ v14 = .pointer (some ⟨bq, 0, none⟩) ∧ v16 = .slice Ay Y.length cy ∧ Y.length ≤ j ∧ Y.length ≤ 30 ∧ PW wr bm [] ∧ OB w0 wr bn bq S Y A9 Ax Ay) (fun v14 v16 vi wr => len4 - (RowKit.intOf vi).toNat)
  case atStart => exact ⟨0, bo, [], none, 0, by omega, rfl, rfl, rfl, by simp, by simp, hTm, hO⟩
  case round =>
    clear hTm hO
    obtain ⟨j, bq, Y, Ay, cy, hj, rfl, rfl, rfl, hlj, hlY, hTm, hO⟩ := hrel
    by_cases hlt : j < len4
    · obtain ⟨x, rfl, hpl, c0, c1⟩ := argp_at HA4.out hO.hB j hlt
      have L1 : (j : Int) < (len4 : Int) := by omega
      have L2 : IntKind.i64.wrap ((j : Int) + 1) = ((j + 1 : Nat) : Int) := by rw [IntWalk.i64_in _ (by unfold maxLen at hl4; omega)]; omega
      generalize pat ps4 j = q at *
      go_upto_region 22 with (fail)
      have hBl := (Below.refl _ wr).alloc (Nat.le_refl _) (.cells #[.string q.1, .string q.2] 34)
      have hP := Blk.new wr 34 #[.string q.1, .string q.2]
      have hO := hO.below hBl
      have hTm := hTm.below hBl
      clear hBl c0 c1 hpl
      generalize wr.alloc (.cells #[.string q.1, .string q.2] 34) = w3 at *
      generalize wr.heap.size = NP at *
      by_cases h30 : j < 30
      · have G : (j : Int) < 30 := by omega
        have hp1 : (few40 q).1.size ≤ 40 := cut40_size q.1
        have hp2 : (few40 q).2.size ≤ 40 := cut40_size q.2
        have kfew : ∀ w', Calls Try.prog 16 #[.agg #[.string q.1, .string q.2]] w' fun e w'' => e = .returned (.agg #[.string (few40 q).1, .string (few40 q).2]) ∧ Below w'.heap.size w' w'' := fun w' => few_any q.1 q.2 w'
        generalize few40 q = p at *
        have q0 : w3.cell? ⟨NP, 0, none⟩ = some (.string q.1) := hP.cell 0
        have q1 : w3.cell? ⟨NP, 1, none⟩ = some (.string q.2) := hP.cell 1
        go_wp2_with fail
        refine (kfew _).mono ?_
        rintro e w4 ⟨rfl, hB4⟩
        have hO := hO.below hB4
        have hTm := hTm.below hB4
        have hP := hP.below hB4
        have kp := put_list hO.hTo (.pointer none) p.1 p.2 (.inl rfl) hp1 hp2
        simp only [at0] at kp
        clear hB4 q0 q1
        go_wp2_with fail
        refine kp.mono ?_
        rintro e w5 ⟨b1, rfl, -, hT1, hB5⟩
        have hzY := hO.hTo.keys
        have hO := hO.below hB5
        have hTm := hTm.below hB5
        have hP := hP.below hB5
        clear kp hB5
        generalize (getR Y p.1).isNone = gb at *
        have q0 : w5.cell? ⟨NP, 0, none⟩ = some (.string q.1) := hP.cell 0
        have q1 : w5.cell? ⟨NP, 1, none⟩ = some (.string q.2) := hP.cell 1
        go_wp2_with fail
        refine (kfew _).mono ?_
        rintro e w6 ⟨rfl, hB6⟩
        have hO := hO.below hB6
        have hTm := hTm.below hB6
        have hT1 := hT1.below hB6
        have kr := refPut_any Ay cy Y p w6 hO.hRy (by omega) (sized_mem fun x hx => Nat.le_trans (hzY x hx) (by unfold maxLen; omega)) (by unfold maxLen; omega)
        unfold Pr.v at kr
        clear q0 q1 hB6 kfew hP
        go_wp2_with fail
        refine kr.mono ?_
        rintro e w7 ⟨v8, rfl, hO8, hB7⟩
        have hO := hO.below hB7
        have hTm := hTm.below hB7
        have hT1 := hT1.below hB7
        obtain ⟨A8, c8, rfl, hR8⟩ := hO8.rd
        clear kr hO8 hB7
        go_wp2_with fail
        refine ⟨⟨j + 1, b1, putK Y p, A8, c8, by omega, by go_num, rfl, rfl, ?_, ?_, hTm, ⟨hO.hB, hO.hTn, hT1, hO.hR9, hO.hRx, hR8⟩⟩, by simp [RowKit.intOf]; omega⟩
        · have := put_lenR Y p
          omega
        · have := put_lenR Y p
          omega
      · have G : ¬ ((j : Int) < 30) := by omega
        clear hP
        go_wp2_with fail
        exact ⟨⟨j + 1, bq, Y, Ay, cy, by omega, by go_num, rfl, rfl, by omega, hlY, hTm, hO⟩, by simp [RowKit.intOf]; omega⟩
    · obtain rfl : j = len4 := by omega
      have G : ¬ ((j : Int) < (j : Int)) := by omega
      have HFF := Lib.hid (HF.out wr bq Y Ay cy hO hlY hTm)
      clear HF hO hTm HA4
      repeat (first | exact HFF.out _ _ _ _ _ _ _ _ _ _ _ _ _ _ _ _ _ _ _ _ _ _ _ _ _ _ _ _ _ _ _ _ _ _ _ _ _ _ _ _ _ _ _ _ _ _ _ _ _ _ _ _ _ _ _ _ _ _ _ _ _ _ _ _ _ _ _ _ _ _ _ _ _ _ _ _ _ _ _ _ _ _ _ _ _ _ _ _ _ _ _ _ _ _ _ _ _ _ _ _ _ _ _ _ _ _ _ _ _ _ _ _ _ _ _ _ _ _ _ _ _ _ _ _ _ _ _ _ _ _ _ _ _ _ _ _ _ _ _ _ _ _ _ _ _ _ _ _ _ _ _ _ _ _ _ _ _ _ _ _ _ _ _ _ _ _ _ _ _ _ _ _ _ _ _ _ _ _ _ _ _ _ _ _ _ _ _ _ _ _ _ _ _ _ _ _ _ _ _ _ _ _ _ _ _ | go_step)
end Go.Proofs.Ytchimfgbdfmegaa.radixOrders
/- RadixOrders, part by part. -/
namespace Go.Proofs.Ytchimfgbdfmegaa.radixOrders
open Go.ChangeShapes Go.WideShapes Go.RowKit Go.Lib
set_option linter.unusedVariables false
set_option linter.unnecessarySimpa false
set_option linter.unusedSimpArgs false
set_option linter.unnecessarySimpa false
set_option maxRecDepth 100000
noncomputable def ord10 : Code := (Try.f7.body.bind (fromRegion 10)).getD .skip
set_option maxHeartbeats 8000000 in
theorem ord10_any (post : Ending → World → Prop) (w0 w : World) (L : List Pr) (v9 : Value) (hB0 : Below w0.heap.size w0 w) (hO9 : Own w0.heap.size w v9 L) (hlL : L.length ≤ 30) (hzL : ∀ x ∈ L, x.1.size ≤ 40 ∧ x.2.size ≤ 40) (hpost : ∀ w', Below w0.heap.size w0 w' → post (.returned (.bool true)) w')
    (a2 : Option Addr) (len2 cap2 : Nat) (zs : List Int) (hrow : IsRow .u8 w0 a2 len2 cap2 zs) (a3 : Option Addr) (len3 cap3 : Nat) (ps3 : List Pr) (hp3 : ArgP w0 a3 len3 cap3 ps3) (a4 : Option Addr) (len4 cap4 : Nat) (ps4 : List Pr) (hp4 : ArgP w0 a4 len4 cap4 ps4) (x0 x4 x5 x6 x7 x8 x10 x11 x12 x13 x14 x15 x16 x17 x18 x19 x20 x21 x22 x23 x24 x25 x26 x27 x28 x29 x30 x31 x32 x33 x34 x35 x36 x37 x38 x39 x40 x41 x42 x43 x44 x45 x46 x47 x48 x49 x50 x51 x52 x53 x54 x55 x56 x57 x58 x59 x60 x61 x62 x63 x64 x65 x66 x67 x68 x69 x70 x71 x72 x73 x74 x75 x76 x77 x78 x79 x80 x81 x82 x83 x84 x85 x86 x87 x88 x89 x90 x91 x92 x93 x94 x95 x96 x97 x98 x99 x100 x101 x102 x103 x104 x105 x106 x107 x108 x109 x110 x111 x112 x113 x114 x115 x116 x117 x118 x119 x120 x121 x122 x123 x124 x125 x126 x127 x128 x129 x130 x131 x132 x133 x134 x135 x136 x137 x138 x139 x140 x141 x142 x143 x144 x145 x146 x147 x148 x149 x150 x151 x152 x153 x154 x155 x156 x157 x158 x159 x160 x161 x162 x163 x164 x165 x166 x167 x168 x169 x170 x171 x172 x173 x174 x175 x176 x177 x178 x179 x180 x181 x182 x183 x184 x185 x186 x187 x188 x189 x190 x191 x192 x193 x194 x195 x196 x197 x198 x199 x200 x201 x202 x203 x204 x205 x206 x207 x208 x209 x210 x211 x212 : Value) :
    Code.wp Try.prog ord10 (bodyPost Try.prog Try.f7 post) ⟨#[x0, .slice a2 len2 cap2, .slice a3 len3 cap3, .slice a4 len4 cap4, x4, x5, x6, x7, x8, v9, x10, x11, x12, x13, x14, x15, x16, x17, x18, x19, x20, x21, x22, x23, x24, x25, x26, x27, x28, x29, x30, x31, x32, x33, x34, x35, x36, x37, x38, x39, x40, x41, x42, x43, x44, x45, x46, x47, x48, x49, x50, x51, x52, x53, x54, x55, x56, x57, x58, x59, x60, x61, x62, x63, x64, x65, x66, x67, x68, x69, x70, x71, x72, x73, x74, x75, x76, x77, x78, x79, x80, x81, x82, x83, x84, x85, x86, x87, x88, x89, x90, x91, x92, x93, x94, x95, x96, x97, x98, x99, x100, x101, x102, x103, x104, x105, x106, x107, x108, x109, x110, x111, x112, x113, x114, x115, x116, x117, x118, x119, x120, x121, x122, x123, x124, x125, x126, x127, x128, x129, x130, x131, x132, x133, x134, x135, x136, x137, x138, x139, x140, x141, x142, x143, x144, x145, x146, x147, x148, x149, x150, x151, x152, x153, x154, x155, x156, x157, x158, x159, x160, x161, x162, x163, x164, x165, x166, x167, x168, x169, x170, x171, x172, x173, x174, x175, x176, x177, x178, x179, x180, x181, x182, x183, x184, x185, x186, x187, x188, x189, x190, x191, x192, x193, x194, x195, x196, x197, x198, x199, x200, x201, x202, x203, x204, x205, x206, x207, x208, x209, x210, x211, x212], []⟩ w := by
  obtain ⟨i45, hi45, hy450, hy451, hy452⟩ := info_parts info40
  obtain ⟨A8, c8, rfl, hR8, hAt, hA0⟩ := hO9.lie
  have ks := sorted_any A8 c8 L w hR8 hAt (by omega) hA0
  have HF := Lib.hid (fun wr bn bm bo (S : List Pr) A9 Ax c9 cx hO hcx hlS hrS hTm hzS hc9 => ord19_any post w0 wr bn bm bo S A9 Ax c9 cx hO hcx hlS hpost hrS a2 len2 cap2 zs hrow a3 len3 cap3 ps3 hp3 a4 len4 cap4 ps4 hp4 hTm hzS hc9)
  clear hpost hrow hp3 hp4 hO9 hR8 hAt hA0
  simp only []
  conv => arg 2; whnf
  go_wp2_with fail
  refine ks.mono ?_
  rintro e w1 ⟨v, S, rfl, hOS, hN, hB1⟩
  have hB := hB0.trans (hB1.mono hB0.size)
  have hrS := hN.rises
  have hlS : S.length ≤ 30 := Nat.le_trans (rises_len hrS (norm_mem hN)) hlL
  have hzS : ∀ x ∈ S, x.1.size ≤ 40 ∧ x.2.size ≤ 40 := fun x hx => hzL x (norm_mem hN x hx)
  obtain ⟨A9, c9, rfl, hR9, hAt9, hA9⟩ := hOS.lie
  have hc9 : A9 = none → c9 = 0 ∧ S = [] := fun e => by
    refine ⟨?_, hA9 e⟩
    rcases hAt9 with ⟨_, h⟩ | ⟨g, h⟩
    · exact h
    · rw [h] at e; cases e
  have hR9 : Own w.heap.size w1 (.slice A9 S.length c9) S := hOS
  clear ks hOS hN hB0 hB1 hAt9 hA9 hlL hzL
  go_wp2_with fail
  refine (empty_any w1).mono ?_
  rintro e w2 ⟨bn, rfl, hTn0, hB2⟩
  have hTn := PW.empty hTn0
  have hB := hB.trans (hB2.mono hB.size)
  have hR9 := hR9.below hB2
  clear hB2 hTn0
  unfold at0
  go_wp2_with fail
  refine (empty_any w2).mono ?_
  rintro e w3 ⟨bm, rfl, hTm0, hB3⟩
  have hTm := PW.empty hTm0
  have hB := hB.trans (hB3.mono hB.size)
  have hR9 := hR9.below hB3
  have hTn := hTn.below hB3
  clear hB3 hTm0
  unfold at0
  go_wp2_with fail
  refine (empty_any w3).mono ?_
  rintro e w4 ⟨bo, rfl, hTo0, hB4⟩
  have hTo := PW.empty hTo0
  have hB := hB.trans (hB4.mono hB.size)
  have hR9 := hR9.below hB4
  have hTn := hTn.below hB4
  have hTm := hTm.below hB4
  clear hB4 hTo0
  unfold at0
  go_wp2_with fail
  go_loopw [12, 15, 56] (fun v12 v15 vi wr => ∃ (j bq : Nat) (Z : List Pr), j ≤ S.length ∧ vi = .int .i64 j ∧ v12 = .pointer (some ⟨bq, 0, none⟩) ∧ Z.length ≤ j ∧ Hid (∀ p, p ∈ Z ↔ p ∈ S.take j) ∧ OwnR w0.heap.size wr v15 (S.take j) ∧ PW wr bq Z ∧ PW wr bm [] ∧ PW wr bo [] ∧ Own w.heap.size wr (.slice A9 S.length c9) S ∧ Below w0.heap.size w0 wr) (fun v12 v15 vi wr => S.length - (RowKit.intOf vi).toNat)
  case atStart => exact ⟨0, bn, [], by omega, rfl, rfl, by simp, Lib.hid (fun p => by simp), OwnR.nil _ _, hTn, hTm, hTo, hR9, hB⟩
  case round =>
    clear hTn hTm hTo hR9 hB
    obtain ⟨j, bq, Z, hj, rfl, rfl, hlZ, HZ, hOx, hTn, hTm, hTo, hR9, hB⟩ := hrel
    by_cases hlt : j < S.length
    · obtain ⟨Aq, cq, eq9, hRq, -⟩ := hR9.lie
      simp only [Value.slice.injEq, true_and] at eq9
      obtain ⟨rfl, rfl⟩ := eq9
      obtain ⟨g, off, rfl, c0, c1⟩ := hRq j S[j] (List.getElem?_eq_getElem hlt)
      clear hRq
      have L1 : (j : Int) < (S.length : Int) := by omega
      have L2 : IntKind.i64.wrap ((j : Int) + 1) = ((j + 1 : Nat) : Int) := by rw [IntWalk.i64_in _ (by omega)]; omega
      have HTk := Lib.hid (List.take_succ_eq_append_getElem hlt)
      have hmemk := HTk.out
      have hlt7 : (S.take j).length ≤ 700 := by rw [List.length_take]; omega
      have hqS : S[j] ∈ S := List.getElem_mem hlt
      have Hlo := Lib.hid (fun p (hp : p ∈ S.take j) => by
        obtain ⟨i, hi, e⟩ := List.getElem_of_mem hp
        rw [List.getElem_take] at e
        have hil : i < j := by rw [List.length_take] at hi; omega
        have := List.pairwise_iff_getElem.1 hrS i j (by omega) hlt hil
        rw [e] at this
        exact this.ne : ∀ p ∈ S.take j, p.1 ≠ S[j].1)
      generalize S[j] = q at *
      have hq1 := hzS q hqS
      go_upto_region 16 with (fail)
      have hBl := (Below.refl _ wr).alloc (Nat.le_refl _) (.cells #[.string q.1, .string q.2] 34)
      have hP := Blk.new wr 34 #[.string q.1, .string q.2]
      have hOx := hOx.below' hBl
      have hTn := hTn.below hBl
      have hTm := hTm.below hBl
      have hTo := hTo.below hBl
      have hR9 := hR9.below hBl
      have hB := hB.trans (hBl.mono hB.size)
      clear hBl c0 c1
      generalize wr.alloc (.cells #[.string q.1, .string q.2] 34) = W1 at *
      generalize wr.heap.size = NP at *
      have p0 : W1.cell? ⟨NP, 0, none⟩ = some (.string q.1) := hP.cell 0
      have p1 : W1.cell? ⟨NP, 1, none⟩ = some (.string q.2) := hP.cell 1
      have kp := put_list hTn (.pointer none) q.1 q.2 (.inl rfl) hq1.1 hq1.2
      simp only [at0] at kp
      go_wp2_with fail
      refine kp.mono ?_
      rintro e w5 ⟨b1, rfl, -, hT1, hB1⟩
      have hP := hP.below hB1
      have hOx := hOx.below' hB1
      have hTm := hTm.below hB1
      have hTo := hTo.below hB1
      have hR9 := hR9.below hB1
      have hB := hB.trans (hB1.mono hB.size)
      clear kp p0 p1 hB1 hTn
      generalize (getR Z q.1).isNone = gb at *
      have p0 : w5.cell? ⟨NP, 0, none⟩ = some (.string q.1) := hP.cell 0
      have p1 : w5.cell? ⟨NP, 1, none⟩ = some (.string q.2) := hP.cell 1
      have hBc := (Below.refl _ w5).alloc (Nat.le_refl _) (.cells #[.string q.1, .string q.2] 45)
      have hO2 := hOx.below' hBc
      have hB2 := hB.trans (hBc.mono hB.size)
      obtain ⟨R, hRe⟩ : ∃ R, R = S.take j := ⟨_, rfl⟩
      rw [← hRe] at hO2 hlt7 HTk
      have hrow : (w5.alloc (.cells #[.string q.1, .string q.2] 45)).ownsRow w0.heap.size 45 2 u15 R.length (flat R) := hO2
      have hnb : (w5.alloc (.cells #[.string q.1, .string q.2] 45)).heap[w5.heap.size]? = some (.cells #[.string q.1, .string q.2] 45 (0, 0)) := heap_alloc_new w5 _
      have hsz := hB2.size
      have HT1 := Lib.hid (hT1.tx (X' := atBlk u15) fun x hx => .inr (by obtain ⟨cs, hc⟩ := own_cells hOx x hx; exact ⟨45, cs, hc, by decide, by decide⟩))
      have HTm := Lib.hid (hTm.tx (X' := atBlk u15) fun x hx => .inr (by obtain ⟨cs, hc⟩ := own_cells hOx x hx; exact ⟨45, cs, hc, by decide, by decide⟩))
      have HTo := Lib.hid (hTo.tx (X' := atBlk u15) fun x hx => .inr (by obtain ⟨cs, hc⟩ := own_cells hOx x hx; exact ⟨45, cs, hc, by decide, by decide⟩))
      have HT1 := Lib.hid (HT1.out.below hBc)
      have HTm := Lib.hid (HTm.out.below hBc)
      have HTo := Lib.hid (HTo.out.below hBc)
      have HR9 := Lib.hid (hR9.below hBc)
      have HB2 := Lib.hid hB2
      clear hOx hO2 hB hBc hB2 hRe hP hT1 hTm hTo hR9
      go_wp2_with (at_builtin; refine wpList_append_own_at _ rfl _ _ 32 rfl w0.heap.size 45 i45 _ 2 32 Try.underlying32 hi45 hy450 hy451 hy452 zsz_pr (by decide) _ _ _ rfl hrow ⟨w5.heap.size, 0, none⟩ 1 1 [.string q.1, .string q.2] rfl rfl (World.news_of_block hnb) (by simp [Value.oneCell']) (by unfold maxLen; omega) (by omega) hsz ?_; intro v' wa hown' hgrow hnil hat)
      replace hgrow : (w5.alloc (.cells #[.string q.1, .string q.2] 45)).grownBy wa u15.ownBlock := hgrow
      have kk := keep_grown hgrow
      refine ⟨⟨j + 1, b1, putK Z q, by omega, by go_num, rfl, ?_, Lib.hid (fun z => ?_), ?_, (HT1.out.keep kk fun x hx => by simpa [atBlk] using hx).pw, (HTm.out.keep kk fun x hx => by simpa [atBlk] using hx).pw, (HTo.out.keep kk fun x hx => by simpa [atBlk] using hx).pw, own_keep HR9.out kk fun x hx e => by
        obtain ⟨cs, hc⟩ := own_cells hrow x (by simpa using hx)
        obtain ⟨cs', hc'⟩ := own_cells HR9.out x e
        rw [hc] at hc'
        simp at hc', HB2.out.grown hgrow hsz (own_ge hrow)⟩, by simp [RowKit.intOf]; omega⟩
      · have := put_lenR Z q
        omega
      · rw [put_sets, hmemk, List.mem_append, List.mem_singleton, HZ.out z]
        constructor
        · rintro (h | ⟨h, _⟩)
          · exact .inr h
          · exact .inl h
        · rintro (h | h)
          · exact .inr ⟨h, Hlo.out z h⟩
          · exact .inl h
      · rw [HTk.out]
        exact OwnR.snoc hown'
    · obtain rfl : j = S.length := by omega
      have G : ¬ ((S.length : Int) < (S.length : Int)) := by omega
      have e : Z = S := rises_ext hTn.rises hrS fun z => by rw [HZ.out z, List.take_length]
      subst e
      rw [List.take_length] at hOx
      obtain ⟨Ax, cx, rfl, hRx, hcx⟩ := hOx.rdc
      obtain ⟨Aq, cq, eq9, hRq, -⟩ := hR9.lie
      simp only [Value.slice.injEq, true_and] at eq9
      obtain ⟨rfl, rfl⟩ := eq9
      have HFF := Lib.hid (HF.out wr bq bm bo Z A9 Ax c9 cx ⟨hB, hTn, hTo, hRq, hRx, fun _ _ h => by simp at h⟩ hcx hlS hrS hTm hzS hc9)
      clear HF hTn hR9 hTo hTm hOx hRx
      repeat (first | exact HFF.out _ _ _ _ _ _ _ _ _ _ _ _ _ _ _ _ _ _ _ _ _ _ _ _ _ _ _ _ _ _ _ _ _ _ _ _ _ _ _ _ _ _ _ _ _ _ _ _ _ _ _ _ _ _ _ _ _ _ _ _ _ _ _ _ _ _ _ _ _ _ _ _ _ _ _ _ _ _ _ _ _ _ _ _ _ _ _ _ _ _ _ _ _ _ _ _ _ _ _ _ _ _ _ _ _ _ _ _ _ _ _ _ _ _ _ _ _ _ _ _ _ _ _ _ _ _ _ _ _ _ _ _ _ _ _ _ _ _ _ _ _ _ _ _ _ _ _ _ _ _ _ _ _ _ _ _ _ _ _ _ _ _ _ _ _ _ _ _ _ _ _ _ _ _ _ _ _ _ _ _ _ _ _ _ _ _ _ _ _ _ _ _ _ _ _ _ _ _ _ _ _ _ _ _ | go_step)
end Go.Proofs.Ytchimfgbdfmegaa.radixOrders
