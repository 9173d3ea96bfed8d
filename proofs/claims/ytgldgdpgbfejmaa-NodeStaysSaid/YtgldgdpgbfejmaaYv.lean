/- The law's 'like': its first loop. -/
import Derived.Test.YtgldgdpgbfejmaaML
import Derived.BigQuiet
namespace Go.Proofs.Ytgldgdpgbfejmaa
open Go.RowKit Go.Lib Go.Conc
set_option linter.unusedVariables false
set_option linter.unusedSimpArgs false
noncomputable def like7 : Code := (Try.f15.body.bind (fromRegion 7)).getD .skip
theorem Blk.rc {w : World} {B : Nat} {r : RN} {vl : Value} (h : Blk w B 85 (rcells r vl).toArray) (j : Nat) (hj : j < 131) : w.cell? ⟨B, j, none⟩ = some (rcell r vl j) := by
  rw [h.cell j, show (rcells r vl).toArray[j]? = (rcells r vl)[j]? by simp, rcells_get _ _ _ hj]
set_option maxRecDepth 1000000 in
set_option maxHeartbeats 8000000 in
theorem like7_any (post : Ending → World → Prop) (base p c xb wb B : Nat) (lw tw Nv Lv vl : Value) (ts : List (Option Nat)) (lv : List Bool) (bl : List Nat) (bs : List NB) (ns : List (RN × Value)) (nb : NB) (r : RN) (w0 w : World)
    (hT : Tks w0 p c ts lv) (hA : RefA base w0 xb Nv Lv ns lv) (hL : Li base w0 wb p xb lw tw ts bl bs) (hN : NodeIs base w0 ts bl nb r) (hkid : ∀ i k, r.S i = .kd k → k < bl.length) (hbl : bl.length ≤ 1000) (ho : r.ow < 5) (hvl : OwnR base w0 vl r.L) (hW : Below w0.heap.size w0 w) (hB : Blk w B 85 (rcells r vl).toArray) (hx : r.L.length ≤ 700) (hpost : ∀ w', Below w0.heap.size w0 w' → post (.returned (.bool true)) w') (x1 x2 x3 x4 x11 x12 x13 x14 x15 x16 x17 x18 x19 x20 x21 x22 x23 x24 x25 x26 x27 x28 x29 x30 x31 x32 x33 x34 x35 x36 x37 x38 x39 x40 x41 x42 x43 x44 x45 x46 x47 x48 x49 x50 x51 x52 x53 x54 x55 x56 x57 x58 x59 x60 x61 x62 x63 x64 x65 x66 x67 x68 x69 x70 x71 x72 x73 x74 x75 x76 x77 x78 x79 x80 x81 x82 x83 x84 x85 x86 x87 x88 x89 x90 x91 x92 x93 x94 x95 x96 x97 x98 x99 x100 x101 x102 x103 x104 x105 x106 x107 x108 x109 x110 x111 x112 x113 x114 x115 x116 x117 x118 x119 x120 x121 x122 x123 x124 x125 x126 x127 x128 x129 x130 x131 x132 x133 x134 x135 x136 x137 x138 x139 x140 x141 x142 x143 x144 x145 x146 x147 x148 x149 x150 x151 x152 x153 x154 x155 x156 x157 x158 x159 x160 x161 x162 x163 x164 x165 x166 x167 x168 x169 x170 x171 x172 x173 x174 x175 x176 x177 x178 x179 x180 x181 x182 x183 x184 x185 x186 x187 x188 x189 x190 x191 x192 x193 x194 x195 x196 x197 x198 x199 x200 x201 x202 x203 x204 x205 x206 x207 x208 x209 x210 x211 x212 x213 x214 x215 x216 x217 x218 x219 x220 x221 x222 x223 x224 x225 x226 x227 x228 x229 x230 x231 x232 x233 x234 x235 x236 x237 : Value) :
    Code.wp Try.prog like7 (bodyPost Try.prog Try.f15 post) ⟨#[.pointer (some ⟨wb, 0, none⟩), x1, x2, x3, x4, .pointer (some ⟨nb.b, 0, none⟩), .pointer (some ⟨B, 0, none⟩), .slice none 0 0, .slice none 0 0, .int .u32 0, .int .u32 0, x11, x12, x13, x14, x15, x16, x17, x18, x19, x20, x21, x22, x23, x24, x25, x26, x27, x28, x29, x30, x31, x32, x33, x34, x35, x36, x37, x38, x39, x40, x41, x42, x43, x44, x45, x46, x47, x48, x49, x50, x51, x52, x53, x54, x55, x56, x57, x58, x59, x60, x61, x62, x63, x64, x65, x66, x67, x68, x69, x70, x71, x72, x73, x74, x75, x76, x77, x78, x79, x80, x81, x82, x83, x84, x85, x86, x87, x88, x89, x90, x91, x92, x93, x94, x95, x96, x97, x98, x99, x100, x101, x102, x103, x104, x105, x106, x107, x108, x109, x110, x111, x112, x113, x114, x115, x116, x117, x118, x119, x120, x121, x122, x123, x124, x125, x126, x127, x128, x129, x130, x131, x132, x133, x134, x135, x136, x137, x138, x139, x140, x141, x142, x143, x144, x145, x146, x147, x148, x149, x150, x151, x152, x153, x154, x155, x156, x157, x158, x159, x160, x161, x162, x163, x164, x165, x166, x167, x168, x169, x170, x171, x172, x173, x174, x175, x176, x177, x178, x179, x180, x181, x182, x183, x184, x185, x186, x187, x188, x189, x190, x191, x192, x193, x194, x195, x196, x197, x198, x199, x200, x201, x202, x203, x204, x205, x206, x207, x208, x209, x210, x211, x212, x213, x214, x215, x216, x217, x218, x219, x220, x221, x222, x223, x224, x225, x226, x227, x228, x229, x230, x231, x232, x233, x234, x235, x236, x237], []⟩ w := by
  obtain ⟨S, hS⟩ : ∃ S, S = mapK bl r.S := ⟨_, rfl⟩
  obtain ⟨d0, n0, hv, hd0, hn0⟩ := hN.full
  rw [← hS] at hv hd0 hn0
  have hv' : ∀ d nn, d = d0 → nn = n0 → NdV base w0 nb.b (pt (owO ts r.ow)) r.bk d nn nb.pv nb.kv (fm S.P 32 ++ r.L) (fm S.K 32) := by rintro _ _ rfl rfl; exact hv
  have hlen : (fm S.P 32 ++ r.L).length ≤ 800 := by rw [List.length_append]; have := fm_len_le S.P 32; omega
  have HF := Lib.hid (fun (v7 v8 : Value) (d nn : Nat) (w1 : World) (h : LI w0 S B (rcells r vl) 32 v7 v8 d nn w1) => like19_any post base p c xb wb B d nn lw tw Nv Lv vl v7 v8 _ r.bk ts lv bl (fm S.K 32) (fm S.P 32 ++ r.L) (fm S.P 32) bs ns nb r w0 w1 hT hA hL hN ho (hv' d nn (bits_full h.bd hd0) (bits_full h.bn hn0)) hvl h.bel h.blk h.o7 h.o8 rfl (fm_len_le _ _) hlen hpost)
  have HP := Lib.hid (fun (c : Nat) (hc : c < 32) (w1 : World) (hb : Below w0.heap.size w0 w1) => by have := (hN.below hb).pairC c hc; rw [← hS] at this; unfold at0 at this; exact this)
  have HK := Lib.hid (fun (c : Nat) (hc : c < 32) (w1 : World) (hb : Below w0.heap.size w0 w1) => by have := (hN.below hb).kidC c hc; rw [← hS] at this; unfold at0 at this; exact this)
  have HL := Lib.hid hL
  have h0 : LI w0 S B (rcells r vl) 0 (.slice none 0 0) (.slice none 0 0) 0 0 w := LI.start hB hW
  clear hT hA hL hN hvl hB hW hpost hv hv' hlen hd0 hn0
  obtain ⟨i0, hi, hz0, hz1, hz2⟩ := info_parts info33
  obtain ⟨i1, hj, hy0, hy1, hy2⟩ := info_parts info39
  simp only []
  conv => arg 2; whnf
  go_wp2_with fail
  go_loopw [7, 8, 9, 10, 43] (fun v7 v8 v9 v10 vi wr => ∃ c d nn : Nat, c ≤ 32 ∧ vi = .int .i64 c ∧ v9 = .int .u32 d ∧ v10 = .int .u32 nn ∧ LI w0 S B (rcells r vl) c v7 v8 d nn wr) (fun v7 v8 v9 v10 vi wr => 32 - (intOf vi).toNat)
  case atStart => exact ⟨0, 0, 0, by omega, rfl, rfl, rfl, h0⟩
  case round =>
    clear h0
    obtain ⟨c, d, nn, hc, rfl, rfl, rfl, hI⟩ := hrel
    by_cases hlt : c < 32
    · have L1 : (c : Int) < 32 := by omega
      have L2 : IntKind.i64.wrap ((c : Int) + 1) = ((c + 1 : Nat) : Int) := by rw [IntWalk.i64_in _ (by omega)]; omega
      have b1 := hI.blk.rc (1 + c) (by omega)
      have b2 := hI.blk.rc (33 + c * 2) (by omega)
      have b3 := hI.blk.rc (33 + c * 2 + 1) (by omega)
      have b4 := hI.blk.rc (97 + c) (by omega)
      rw [rcell_is _ _ _ hlt] at b1
      rw [rcell_p1 _ _ _ hlt] at b2
      rw [rcell_p2 _ _ _ hlt] at b3
      rw [rcell_k _ _ _ hlt] at b4
      have kp := HP.out c hlt wr hI.bel
      have HKF := Lib.hid (fun w' (hB : Below wr.heap.size wr w') => HK.out c hlt w' (hI.bel.trans (hB.mono hI.bel.size)))
      clear HF HP HK

      obtain ⟨x, hx⟩ : ∃ x, r.S c = x := ⟨_, rfl⟩
      rw [hx] at b1 b2 b3 b4
      cases x with
      | no =>
        have hs : S c = .no := by rw [hS]; unfold mapK; rw [hx]
        have eP : S.P c = none := by unfold Slots.P; rw [hs]; rfl
        have eK : S.K c = none := by unfold Slots.K; rw [hs]; rfl
        rw [eP] at kp
        have HI2 := Lib.hid (hI.no hs)
        have HKK := Lib.hid (fun w' (hB : Below wr.heap.size wr w') => by have := HKF.out w' hB; rw [eK] at this; exact this)
        simp only [Sl.isN, Sl.prN, Sl.kdN] at b1 b2 b3 b4
        clear hI HKF hS hs hx eP eK
        go_wp2_with fail
        refine kp.mono ?_
        rintro e w1 ⟨rfl, hB1⟩
        simp only [optP, Option.isSome_none, Option.isSome_some, Pr.v]
        go_upto_region 11 with (fail)
        have hBa := (Below.refl _ w1).alloc (Nat.le_refl _) (.cells #[.string ⟨#[]⟩, .string ⟨#[]⟩] 27)
        have hB1a := hB1.trans (hBa.mono hB1.size)
        have hbx := Blk.new w1 27 #[.string ⟨#[]⟩, .string ⟨#[]⟩]
        generalize w1.alloc (.cells #[.string ⟨#[]⟩, .string ⟨#[]⟩] 27) = W at *
        generalize w1.heap.size = N at *
        clear hBa hB1
        have kk := HKK.out W hB1a
        clear HKK
        go_wp2_with fail
        refine kk.mono ?_
        rintro e w2 ⟨rfl, hB2⟩
        have hB3 := hB1a.trans (hB2.mono hB1a.size)
        have z0 : w2.cell? ⟨N, 0, none⟩ = some (.string ⟨#[]⟩) := (hbx.below hB2).cell 0
        have z1 : w2.cell? ⟨N, 1, none⟩ = some (.string ⟨#[]⟩) := (hbx.below hB2).cell 1
        replace b1 := (hB3.cell (World.block_lt_of_cell? wr _ b1)).trans b1
        replace b2 := (hB3.cell (World.block_lt_of_cell? wr _ b2)).trans b2
        replace b3 := (hB3.cell (World.block_lt_of_cell? wr _ b3)).trans b3
        replace b4 := (hB3.cell (World.block_lt_of_cell? wr _ b4)).trans b4
        have HI3 := Lib.hid (HI2.out.below hB3)
        clear b4 HI2 hB1a hB2 hB3 hbx kk kp
        simp only [pt, Option.isSome_none]
        go_upto_region 12 with (fail)
        go_quiet (fail)
        go_wp2_with fail
        exact ⟨⟨c + 1, d, nn, by omega, by go_num, rfl, rfl, HI3.out.below ⟨rfl, rfl, rfl, Nat.le_refl _, fun _ _ => rfl⟩⟩, by simp [intOf]; omega⟩
      | pr q =>
        have hs : S c = .pr q := by rw [hS]; unfold mapK; rw [hx]
        have eP : S.P c = some q := by unfold Slots.P; rw [hs]; rfl
        have eK : S.K c = none := by unfold Slots.K; rw [hs]; rfl
        rw [eP] at kp
        have HI2 := Lib.hid hI
        have HS := Lib.hid hs
        have HKK := Lib.hid (fun w' (hB : Below wr.heap.size wr w') => by have := HKF.out w' hB; rw [eK] at this; exact this)
        simp only [Sl.isN, Sl.prN, Sl.kdN] at b1 b2 b3 b4
        clear hI HKF hS hs hx eP eK
        go_wp2_with fail
        refine kp.mono ?_
        rintro e w1 ⟨rfl, hB1⟩
        simp only [optP, Option.isSome_none, Option.isSome_some, Pr.v]
        go_upto_region 11 with (fail)
        have hBa := (Below.refl _ w1).alloc (Nat.le_refl _) (.cells #[.string q.1, .string q.2] 27)
        have hB1a := hB1.trans (hBa.mono hB1.size)
        have hbx := Blk.new w1 27 #[.string q.1, .string q.2]
        generalize w1.alloc (.cells #[.string q.1, .string q.2] 27) = W at *
        generalize w1.heap.size = N at *
        clear hBa hB1
        have kk := HKK.out W hB1a
        clear HKK
        go_wp2_with fail
        refine kk.mono ?_
        rintro e w2 ⟨rfl, hB2⟩
        have hB3 := hB1a.trans (hB2.mono hB1a.size)
        have z0 : w2.cell? ⟨N, 0, none⟩ = some (.string q.1) := (hbx.below hB2).cell 0
        have z1 : w2.cell? ⟨N, 1, none⟩ = some (.string q.2) := (hbx.below hB2).cell 1
        replace b1 := (hB3.cell (World.block_lt_of_cell? wr _ b1)).trans b1
        replace b2 := (hB3.cell (World.block_lt_of_cell? wr _ b2)).trans b2
        replace b3 := (hB3.cell (World.block_lt_of_cell? wr _ b3)).trans b3
        replace b4 := (hB3.cell (World.block_lt_of_cell? wr _ b4)).trans b4
        have HI3 := Lib.hid (HI2.out.below hB3)
        have hnq : ∀ w, (binOp .neq 81 (.agg #[.string q.1, .string q.2]) (.agg #[.string q.1, .string q.2])).run Try.prog w = .ok (.bool false) w := fun w => by rw [neq40 q q w]; simp [peq]
        have hd := HI2.out.bd.lt
        clear b4 HI2 hB1a hB2 hB3 hbx kk kp
        simp only [pt, Option.isSome_none]
        go_upto_region 12 with (fail)
        go_quiet (fail)
        have HI4 := Lib.hid (HI3.out.below (w' := w2.drewN nq) ⟨rfl, rfl, rfl, Nat.le_refl _, fun _ _ => rfl⟩)
        have z0' : (w2.drewN nq).cell? ⟨N, 0, none⟩ = some (.string q.1) := z0
        have z1' : (w2.drewN nq).cell? ⟨N, 1, none⟩ = some (.string q.2) := z1
        clear HI3 b1 b2 b3 z0 z1
        generalize w2.drewN nq = W2 at *
        have hBc := (Below.refl _ W2).alloc (Nat.le_refl _) (.cells #[.string q.1, .string q.2] 27)
        have HI5 := Lib.hid (HI4.out.below hBc)
        have hrow : (W2.alloc (.cells #[.string q.1, .string q.2] 27)).ownsRow w0.heap.size 27 2 u7 (fm S.P c).length (flat (fm S.P c)) := HI5.out.o7
        have hsz : w0.heap.size ≤ (W2.alloc (.cells #[.string q.1, .string q.2] 27)).heap.size := HI5.out.bel.size
        have hlen : (fm S.P c).length ≤ 32 := by have := fm_len_le S.P c; omega
        obtain ⟨R, hR⟩ : ∃ R, R = fm S.P c := ⟨_, rfl⟩
        rw [← hR] at hrow hlen
        have HR := Lib.hid hR
        clear HI4 hBc hR
        go_wp2_with (at_builtin; refine wpList_append_own_at _ rfl _ _ 40 rfl w0.heap.size 27 i0 _ 2 32 Try.underlying40 hi hz0 hz1 hz2 zsz_pairs (by decide) _ _ _ rfl hrow ⟨W2.heap.size, 0, none⟩ 1 1 [.string q.1, .string q.2] rfl rfl (cell_two_new _ _ _ _) (flat_cell q) (by unfold maxLen; omega) (by omega) hsz ?_; intro v' wa hown' hgrow hnil hat)
        refine (with_any _ _ _ hd).mono ?_
        rintro e w' ⟨rfl, rfl⟩
        have HI6 := Lib.hid (HI5.out.pr hlt q HS.out hgrow (by rw [← HR.out]; exact hown'))
        clear HI5 hrow hsz hown' hgrow hnil hat hlen
        go_wp2_with fail
        exact ⟨⟨c + 1, _, nn, by omega, by go_num, rfl, rfl, HI6.out⟩, by simp [intOf]; omega⟩
      | kd k =>
        have hs : S c = .kd (bl[k]?.getD 0) := by rw [hS]; unfold mapK; rw [hx]
        have eP : S.P c = none := by unfold Slots.P; rw [hs]; rfl
        have eK : S.K c = some (bl[k]?.getD 0) := by unfold Slots.K; rw [hs]; rfl
        have hkl := hkid c k hx
        have HI2 := Lib.hid hI
        obtain ⟨bb, hbb⟩ : ∃ bb, bb = bl[k]?.getD 0 := ⟨_, rfl⟩
        obtain ⟨AL, cL, hlw, aL⟩ := HL.out.l.formK
        obtain ⟨b0, gL, rfl, e0, aL⟩ := aL k hkl
        rw [e0, Option.getD_some] at hbb
        subst hbb
        rw [e0, Option.getD_some] at hs eK
        have HS := Lib.hid hs
        have cw := HL.out.blk.cell 0
        replace cw := (hI.bel.cell (World.block_lt_of_cell? w0 _ cw)).trans cw
        replace aL := (hI.bel.cell (World.block_lt_of_cell? w0 _ aL)).trans aL
        replace cw : wr.cell? ⟨wb, 0, none⟩ = some (.slice (some ⟨gL, 0, none⟩) bl.length cL) := by rw [cw, hlw]; rfl
        rw [eP] at kp
        have HKK := Lib.hid (fun w' (hB : Below wr.heap.size wr w') => by have := HKF.out w' hB; rw [eK] at this; exact this)
        simp only [Sl.isN, Sl.prN, Sl.kdN] at b1 b2 b3 b4
        have K1 : (k : Int) < (bl.length : Int) := by omega
        clear hI HKF hS hs hx eP eK e0 hlw
        go_wp2_with fail
        refine kp.mono ?_
        rintro e w1 ⟨rfl, hB1⟩
        simp only [optP, Option.isSome_none, Option.isSome_some, Pr.v]
        go_upto_region 11 with (fail)
        have hBa := (Below.refl _ w1).alloc (Nat.le_refl _) (.cells #[.string ⟨#[]⟩, .string ⟨#[]⟩] 27)
        have hB1a := hB1.trans (hBa.mono hB1.size)
        have hbx := Blk.new w1 27 #[.string ⟨#[]⟩, .string ⟨#[]⟩]
        generalize w1.alloc (.cells #[.string ⟨#[]⟩, .string ⟨#[]⟩] 27) = W at *
        generalize w1.heap.size = N at *
        clear hBa hB1
        have kk := HKK.out W hB1a
        clear HKK
        go_wp2_with fail
        refine kk.mono ?_
        rintro e w2 ⟨rfl, hB2⟩
        have hB3 := hB1a.trans (hB2.mono hB1a.size)
        have z0 : w2.cell? ⟨N, 0, none⟩ = some (.string ⟨#[]⟩) := (hbx.below hB2).cell 0
        have z1 : w2.cell? ⟨N, 1, none⟩ = some (.string ⟨#[]⟩) := (hbx.below hB2).cell 1
        replace b1 := (hB3.cell (World.block_lt_of_cell? wr _ b1)).trans b1
        replace b2 := (hB3.cell (World.block_lt_of_cell? wr _ b2)).trans b2
        replace b3 := (hB3.cell (World.block_lt_of_cell? wr _ b3)).trans b3
        replace b4 := (hB3.cell (World.block_lt_of_cell? wr _ b4)).trans b4
        replace cw := (hB3.cell (World.block_lt_of_cell? wr _ cw)).trans cw
        replace aL := (hB3.cell (World.block_lt_of_cell? wr _ aL)).trans aL
        have HI3 := Lib.hid (HI2.out.below hB3)
        have hnq := fun w => neq_node_same bb w
        unfold at0 at hnq
        have hd := HI2.out.bn.lt
        clear HI2 hB1a hB2 hB3 hbx kk kp
        simp only [pt, Option.isSome_some]
        unfold at0
        go_upto_region 12 with (fail)
        go_quiet (fail)
        have HI4 := Lib.hid (HI3.out.below (w' := w2.drewN nq) ⟨rfl, rfl, rfl, Nat.le_refl _, fun _ _ => rfl⟩)
        clear HI3 b1 b2 b3 b4 z0 z1 cw aL
        generalize w2.drewN nq = W2 at *
        have hBc := (Below.refl _ W2).alloc (Nat.le_refl _) (.cells #[.pointer (some ⟨bb, 0, none⟩)] 39)
        have HI5 := Lib.hid (HI4.out.below hBc)
        have hrow : (W2.alloc (.cells #[.pointer (some ⟨bb, 0, none⟩)] 39)).ownsRow w0.heap.size 39 1 u8 (fm S.K c).length (kcs (fm S.K c)) := HI5.out.o8
        have hsz : w0.heap.size ≤ (W2.alloc (.cells #[.pointer (some ⟨bb, 0, none⟩)] 39)).heap.size := HI5.out.bel.size
        have hlen : (fm S.K c).length ≤ 32 := by have := fm_len_le S.K c; omega
        obtain ⟨R, hR⟩ : ∃ R, R = fm S.K c := ⟨_, rfl⟩
        rw [← hR] at hrow hlen
        have HR := Lib.hid hR
        clear HI4 hBc hR
        go_wp2_with (at_builtin; refine wpList_append_own_at _ rfl _ _ 31 rfl w0.heap.size 39 i1 _ 1 8 Try.underlying31 hj hy0 hy1 hy2 zsz_kids (by decide) _ _ _ rfl hrow ⟨W2.heap.size, 0, none⟩ 1 1 [.pointer (some ⟨bb, 0, none⟩)] rfl rfl (cell_one_new _ _ _) (by simp [Value.oneCell']) (by unfold maxLen; omega) (by omega) hsz ?_; intro v' wa hown' hgrow hnil hat)
        refine (with_any _ _ _ hd).mono ?_
        rintro e w' ⟨rfl, rfl⟩
        have HI6 := Lib.hid (HI5.out.kd hlt bb HS.out hgrow (by rw [← HR.out]; exact hown'))
        clear HI5 hrow hsz hown' hgrow hnil hat hlen
        go_wp2_with fail
        exact ⟨⟨c + 1, d, _, by omega, by go_num, rfl, rfl, HI6.out⟩, by simp [intOf]; omega⟩

    · obtain rfl : c = 32 := by omega
      have HG := Lib.hid (HF.out _ _ _ _ wr hI)
      clear HF HP HK HL hI
      repeat (first | exact HG.out _ _ _ _ _ _ _ _ _ _ _ _ _ _ _ _ _ _ _ _ _ _ _ _ _ _ _ _ _ _ _ _ _ _ _ _ _ _ _ _ _ _ _ _ _ _ _ _ _ _ _ _ _ _ _ _ _ _ _ _ _ _ _ _ _ _ _ _ _ _ _ _ _ _ _ _ _ _ _ _ _ _ _ _ _ _ _ _ _ _ _ _ _ _ _ _ _ _ _ _ _ _ _ _ _ _ _ _ _ _ _ _ _ _ _ _ _ _ _ _ _ _ _ _ _ _ _ _ _ _ _ _ _ _ _ _ _ _ _ _ _ _ _ _ _ _ _ _ _ _ _ _ _ _ _ _ _ _ _ _ _ _ _ _ _ _ _ _ _ _ _ _ _ _ _ _ _ _ _ _ _ _ _ _ _ _ _ _ _ _ _ _ _ _ _ _ _ _ _ _ _ _ _ _ _ _ _ _ _ _ _ _ _ _ _ _ _ _ _ _ _ _ _ _ _ _ _ _ _ _ _ | go_step)
end Go.Proofs.Ytgldgdpgbfejmaa
