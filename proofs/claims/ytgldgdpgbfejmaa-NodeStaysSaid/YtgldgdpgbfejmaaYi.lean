/- The law's 'do': its head. -/
import Derived.Test.YtgldgdpgbfejmaaYf
import Derived.BigQuiet
namespace Go.Proofs.Ytgldgdpgbfejmaa
open Go.RowKit Go.Lib Go.Conc
set_option linter.unusedVariables false
set_option linter.unusedSimpArgs false
set_option maxRecDepth 1000000 in
set_option maxHeartbeats 8000000 in
theorem doHead (post : Ending → World → Prop) (base wb N lg tg lc tc n k t nbb na ka ta dd : Nat) (i : Int) (q : Pr) (bl : List Nat) (ts : List (Option Nat)) (pv xv : Value) (w : World)
    (hblk : Blk w wb 36 #[.slice (some ⟨lg, 0, none⟩) N lc, .slice (some ⟨tg, 0, none⟩) 5 tc, pv, xv]) (hl : OwnK base w (.slice (some ⟨lg, 0, none⟩) N lc) bl) (hN : N = bl.length) (hpos : 0 < N) (hsz : N ≤ 1000)
    (hna : na < 256) (hka : ka < 256) (hta : ta < 256) (hdd : dd < 256) (hn : n = na % N) (hk : k = ka % N) (ht : t = ta % 5) (hb : bl[n]? = some nbb)
    (hmid : ∀ (X : Nat) (w1 : World) (x1 x2 x11 x12 x13 x14 x15 x16 x17 x18 x19 x20 x21 x22 x23 x24 x25 x26 x27 x28 x29 x30 x31 x32 x33 x34 x35 x36 x37 x38 x39 x40 x41 x42 x43 x44 x45 x46 x47 x48 x49 x50 x51 x52 x53 x54 x55 x56 x57 x58 x59 x60 x61 x62 x63 x64 x65 x66 x67 x68 x69 x70 x71 x72 x73 x74 x75 x76 x77 x78 x79 x80 x81 x82 x83 x84 x85 x86 x87 x88 x89 x90 x91 x92 x93 x94 x95 x96 x97 x98 x99 x100 x101 x102 x103 x104 x105 x106 x107 x108 x109 x110 x111 x112 x113 x114 x115 x116 x117 x118 x119 x120 x121 x122 x123 x124 x125 x126 x127 x128 x129 x130 x131 x132 x133 x134 x135 x136 x137 x138 x139 x140 x141 x142 x143 x144 x145 x146 x147 x148 x149 x150 x151 x152 x153 x154 x155 x156 x157 x158 x159 x160 x161 x162 x163 x164 x165 x166 x167 x168 x169 x170 x171 x172 x173 x174 x175 x176 x177 x178 x179 x180 x181 x182 x183 x184 x185 x186 x187 x188 x189 x190 x191 x192 x193 x194 x195 x196 x197 x198 x199 x200 x201 x202 x203 x204 x205 x206 x207 x208 x209 x210 x211 x212 x213 x214 x215 x216 x217 x218 x219 x220 x221 x222 x223 x224 x225 x226 x227 x228 x229 x230 x231 x232 x233 x234 x235 x236 x237 x238 x239 x240 x241 x242 x243 x244 x245 x246 x247 x248 x249 x250 x251 x252 x253 x254 x255 x256 x257 x258 x259 x260 x261 x262 x263 x264 x265 x266 x267 x268 x269 x270 x271 x272 x273 x274 x275 x276 x277 x278 x279 : Value), Below w.heap.size w w1 → Blk w1 X 29 (actB dd na ka ta i q) → Code.wp Try.prog doMid (bodyPost Try.prog Try.f14 post) ⟨#[.pointer (some ⟨wb, 0, none⟩), x1, x2, .pointer (some ⟨X, 0, none⟩), .bool false, .int .i64 n, .int .i64 k, .int .i64 t, .pointer (some ⟨nbb, 0, none⟩), .pointer none, .int .i64 (0 : Nat), x11, x12, x13, x14, x15, x16, x17, x18, x19, x20, x21, x22, x23, x24, x25, x26, x27, x28, x29, x30, x31, x32, x33, x34, x35, x36, x37, x38, x39, x40, x41, x42, x43, x44, x45, x46, x47, x48, x49, x50, x51, x52, x53, x54, x55, x56, x57, x58, x59, x60, x61, x62, x63, x64, x65, x66, x67, x68, x69, x70, x71, x72, x73, x74, x75, x76, x77, x78, x79, x80, x81, x82, x83, x84, x85, x86, x87, x88, x89, x90, x91, x92, x93, x94, x95, x96, x97, x98, x99, x100, x101, x102, x103, x104, x105, x106, x107, x108, x109, x110, x111, x112, x113, x114, x115, x116, x117, x118, x119, x120, x121, x122, x123, x124, x125, x126, x127, x128, x129, x130, x131, x132, x133, x134, x135, x136, x137, x138, x139, x140, x141, x142, x143, x144, x145, x146, x147, x148, x149, x150, x151, x152, x153, x154, x155, x156, x157, x158, x159, x160, x161, x162, x163, x164, x165, x166, x167, x168, x169, x170, x171, x172, x173, x174, x175, x176, x177, x178, x179, x180, x181, x182, x183, x184, x185, x186, x187, x188, x189, x190, x191, x192, x193, x194, x195, x196, x197, x198, x199, x200, x201, x202, x203, x204, x205, x206, x207, x208, x209, x210, x211, x212, x213, x214, x215, x216, x217, x218, x219, x220, x221, x222, x223, x224, x225, x226, x227, x228, x229, x230, x231, x232, x233, x234, x235, x236, x237, x238, x239, x240, x241, x242, x243, x244, x245, x246, x247, x248, x249, x250, x251, x252, x253, x254, x255, x256, x257, x258, x259, x260, x261, x262, x263, x264, x265, x266, x267, x268, x269, x270, x271, x272, x273, x274, x275, x276, x277, x278, x279], []⟩ w1) :
    Calls Try.prog 14 #[.pointer (some ⟨wb, 0, none⟩), .agg #[.int .u8 dd, .int .u8 na, .int .u8 ka, .int .u8 ta, .int .i64 i, .string q.1, .string q.2]] w post := by
  have hB := (Below.refl _ w).alloc (Nat.le_refl _) (.cells (actB dd na ka ta i q) 29)
  have hX := Blk.new w 29 (actB dd na ka ta i q)
  have hbl1 := hblk.below hB
  have hl1 := hl.below hB
  subst hN
  obtain ⟨g', c', e, hlt, hc⟩ := hl1.atK n nbb hb
  cases e
  have c0 := hbl1.cell 0
  have c1 := hbl1.cell 1
  have a1 := hX.cell 1
  have a2 := hX.cell 2
  have a3 := hX.cell 3
  simp only [actB, List.getElem?_toArray, List.getElem?_cons_succ, List.getElem?_cons_zero] at c0 c1 a1 a2 a3
  have HM := Lib.hid hmid
  have HB := Lib.hid hB
  have HX := Lib.hid hX
  unfold actB at HB HX hc
  unfold at0 at hc
  obtain ⟨M, hM⟩ : ∃ M, M = bl.length := ⟨_, rfl⟩
  rw [← hM] at c0 hn hk hlt hpos hsz
  have e1 : Int.tmod (na : Int) (M : Int) = (n : Int) := by rw [Int.tmod_eq_emod_of_nonneg (by omega), hn]; omega
  have e2 : Int.tmod (ka : Int) (M : Int) = (k : Int) := by rw [Int.tmod_eq_emod_of_nonneg (by omega), hk]; omega
  have e3 : Int.tmod (ta : Int) (5 : Int) = (t : Int) := by rw [Int.tmod_eq_emod_of_nonneg (by omega), ht]; omega
  have k1 : IntKind.i64.wrap (na : Int) = (na : Int) := IntWalk.i64_in _ (by omega)
  have k2 : IntKind.i64.wrap (ka : Int) = (ka : Int) := IntWalk.i64_in _ (by omega)
  have k3 : IntKind.i64.wrap (ta : Int) = (ta : Int) := IntWalk.i64_in _ (by omega)
  have hn8 : n < M := hlt
  have hk8 : k < M := by rw [hk]; exact Nat.mod_lt _ hpos
  have ht8 : t < 5 := by rw [ht]; exact Nat.mod_lt _ (by omega)
  have k4 : IntKind.i64.wrap (n : Int) = (n : Int) := IntWalk.i64_in _ (by omega)
  have k5 : IntKind.i64.wrap (k : Int) = (k : Int) := IntWalk.i64_in _ (by omega)
  have k6 : IntKind.i64.wrap (t : Int) = (t : Int) := IntWalk.i64_in _ (by omega)
  have m0 : ¬ (M : Int) = 0 := by omega
  have B1 : (n : Int) < (M : Int) := by omega
  clear hmid hB hX hbl1 hl1 hblk hl hn hk ht hb hM
  go_enter Try.func14, Try.ntmps14
  go_upto_region 1 with (fail)
  generalize w.alloc (.cells #[.int .u8 dd, .int .u8 na, .int .u8 ka, .int .u8 ta, .int .i64 i, .string q.1, .string q.2] 29) = W at *
  go_quiet (fail)
  have HB2 : Hid (Below w.heap.size w (W.drewN nq)) := Lib.hid ⟨HB.out.os, HB.out.tape, HB.out.output, HB.out.size, HB.out.block⟩
  have HX2 : Hid (Blk (W.drewN nq) w.heap.size 29 (actB dd na ka ta i q)) := Lib.hid HX.out
  have c0' : (W.drewN nq).cell? ⟨wb, 0, none⟩ = some (.slice (some ⟨lg, 0, none⟩) M lc) := c0
  have hc' : (W.drewN nq).cell? ⟨lg, n, none⟩ = some (.pointer (some ⟨nbb, 0, none⟩)) := hc
  clear HB HX c0 c1 hc a1 a2 a3 e1 e2 e3
  generalize W.drewN nq = W9 at *
  repeat (first | exact HM.out w.heap.size W9 _ _ _ _ _ _ _ _ _ _ _ _ _ _ _ _ _ _ _ _ _ _ _ _ _ _ _ _ _ _ _ _ _ _ _ _ _ _ _ _ _ _ _ _ _ _ _ _ _ _ _ _ _ _ _ _ _ _ _ _ _ _ _ _ _ _ _ _ _ _ _ _ _ _ _ _ _ _ _ _ _ _ _ _ _ _ _ _ _ _ _ _ _ _ _ _ _ _ _ _ _ _ _ _ _ _ _ _ _ _ _ _ _ _ _ _ _ _ _ _ _ _ _ _ _ _ _ _ _ _ _ _ _ _ _ _ _ _ _ _ _ _ _ _ _ _ _ _ _ _ _ _ _ _ _ _ _ _ _ _ _ _ _ _ _ _ _ _ _ _ _ _ _ _ _ _ _ _ _ _ _ _ _ _ _ _ _ _ _ _ _ _ _ _ _ _ _ _ _ _ _ _ _ _ _ _ _ _ _ _ _ _ _ _ _ _ _ _ _ _ _ _ _ _ _ _ _ _ _ _ _ _ _ _ _ _ _ _ _ _ _ _ _ _ _ _ _ _ _ _ _ _ _ _ _ _ _ _ _ _ _ _ _ _ _ _ _ _ _ _ _ HB2.out HX2.out | go_step)

end Go.Proofs.Ytgldgdpgbfejmaa
