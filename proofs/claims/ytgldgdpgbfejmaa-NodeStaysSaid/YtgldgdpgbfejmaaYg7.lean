/- The law's 'do': a case. -/
import Derived.Test.YtgldgdpgbfejmaaYh
import Derived.Deep.RegionHeld3
namespace Go.Proofs.Ytgldgdpgbfejmaa
open Go.RowKit Go.Lib Go.Conc
set_option linter.unusedVariables false
set_option linter.unusedSimpArgs false
theorem Few.more {m : Nat} {ns : List (RN × Value)} (h : Few m ns) : Few (m + 1) ns := ⟨⟨h.1.1, Nat.le_succ_of_le h.1.2⟩, fun r hr => Nat.le_succ_of_le (h.2 r hr)⟩
theorem Cr.endGe {base : Nat} {w : World} {p c xb : Nat} {Nv Lv : Value} {ts : List (Option Nat)} {lv : List Bool} {bs : List NB} {ns : List (RN × Value)} (h : Cr base w p c xb Nv Lv ts lv bs ns) {t x : Nat} (ht : t < 5) (hx : x ∈ endX p c (owO ts t)) : base ≤ x := by
  unfold endX at hx
  simp only [List.mem_append, List.mem_cons, List.not_mem_nil, or_false, Option.mem_toList] at hx
  rcases hx with (rfl | rfl) | hx
  · exact h.ge.1
  · exact h.ge.2
  · refine h.tge x ?_
    have hl : t < ts.length := by rw [h.tks.len]; exact ht
    unfold owO at hx
    rw [List.getElem?_eq_getElem hl] at hx
    simp at hx
    rw [← hx]
    exact List.getElem_mem hl
set_option maxRecDepth 1000000 in
set_option maxHeartbeats 8000000 in
theorem do7 (base p c xb wb m n k t X N lg tg lc tc kb dd na ka ta : Nat) (i : Int) (q : Pr) (Nv Lv : Value) (ts : List (Option Nat)) (lv : List Bool) (bs : List NB) (ns : List (RN × Value)) (nb : NB) (rv : RN × Value) (w0 wc : World)
    (hC : Cr base wc p c xb Nv Lv ts lv bs ns) (hX : Ctx base wc X wb p xb (actB dd na ka ta i q) (.slice (some ⟨lg, 0, none⟩) N lc) (.slice (some ⟨tg, 0, none⟩) 5 tc) ts (bs.map (·.b)) bs) (hF : Few m ns) (hW : Below base w0 wc) (hbase : base ≤ wc.heap.size)
    (hN : N = (bs.map (·.b)).length) (hn : bs[n]? = some nb) (hr : ns[n]? = some rv) (hk : (bs.map (·.b))[k]? = some kb) (ht : t < 5) (hm : m ≤ 800) (hq : q.1.size ≤ maxLen) (hd : dd % 8 = 7) (x1 x2 x11 x12 x13 x14 x15 x16 x17 x18 x19 x20 x21 x22 x23 x24 x25 x26 x27 x28 x29 x30 x31 x32 x33 x34 x35 x36 x37 x38 x39 x40 x41 x42 x43 x44 x45 x46 x47 x48 x49 x50 x51 x52 x53 x54 x55 x56 x57 x58 x59 x60 x61 x62 x63 x64 x65 x66 x67 x68 x69 x70 x71 x72 x73 x74 x75 x76 x77 x78 x79 x80 x81 x82 x83 x84 x85 x86 x87 x88 x89 x90 x91 x92 x93 x94 x95 x96 x97 x98 x99 x100 x101 x102 x103 x104 x105 x106 x107 x108 x109 x110 x111 x112 x113 x114 x115 x116 x117 x118 x119 x120 x121 x122 x123 x124 x125 x126 x127 x128 x129 x130 x131 x132 x133 x134 x135 x136 x137 x138 x139 x140 x141 x142 x143 x144 x145 x146 x147 x148 x149 x150 x151 x152 x153 x154 x155 x156 x157 x158 x159 x160 x161 x162 x163 x164 x165 x166 x167 x168 x169 x170 x171 x172 x173 x174 x175 x176 x177 x178 x179 x180 x181 x182 x183 x184 x185 x186 x187 x188 x189 x190 x191 x192 x193 x194 x195 x196 x197 x198 x199 x200 x201 x202 x203 x204 x205 x206 x207 x208 x209 x210 x211 x212 x213 x214 x215 x216 x217 x218 x219 x220 x221 x222 x223 x224 x225 x226 x227 x228 x229 x230 x231 x232 x233 x234 x235 x236 x237 x238 x239 x240 x241 x242 x243 x244 x245 x246 x247 x248 x249 x250 x251 x252 x253 x254 x255 x256 x257 x258 x259 x260 x261 x262 x263 x264 x265 x266 x267 x268 x269 x270 x271 x272 x273 x274 x275 x276 x277 x278 x279 : Value) :
    Code.wp Try.prog doMid (bodyPost Try.prog Try.f14 (DoPost base p c xb wb (.slice (some ⟨tg, 0, none⟩) 5 tc) ts m w0)) ⟨#[.pointer (some ⟨wb, 0, none⟩), x1, x2, .pointer (some ⟨X, 0, none⟩), .bool false, .int .i64 n, .int .i64 k, .int .i64 t, .pointer (some ⟨nb.b, 0, none⟩), .pointer none, .int .i64 (0 : Nat), x11, x12, x13, x14, x15, x16, x17, x18, x19, x20, x21, x22, x23, x24, x25, x26, x27, x28, x29, x30, x31, x32, x33, x34, x35, x36, x37, x38, x39, x40, x41, x42, x43, x44, x45, x46, x47, x48, x49, x50, x51, x52, x53, x54, x55, x56, x57, x58, x59, x60, x61, x62, x63, x64, x65, x66, x67, x68, x69, x70, x71, x72, x73, x74, x75, x76, x77, x78, x79, x80, x81, x82, x83, x84, x85, x86, x87, x88, x89, x90, x91, x92, x93, x94, x95, x96, x97, x98, x99, x100, x101, x102, x103, x104, x105, x106, x107, x108, x109, x110, x111, x112, x113, x114, x115, x116, x117, x118, x119, x120, x121, x122, x123, x124, x125, x126, x127, x128, x129, x130, x131, x132, x133, x134, x135, x136, x137, x138, x139, x140, x141, x142, x143, x144, x145, x146, x147, x148, x149, x150, x151, x152, x153, x154, x155, x156, x157, x158, x159, x160, x161, x162, x163, x164, x165, x166, x167, x168, x169, x170, x171, x172, x173, x174, x175, x176, x177, x178, x179, x180, x181, x182, x183, x184, x185, x186, x187, x188, x189, x190, x191, x192, x193, x194, x195, x196, x197, x198, x199, x200, x201, x202, x203, x204, x205, x206, x207, x208, x209, x210, x211, x212, x213, x214, x215, x216, x217, x218, x219, x220, x221, x222, x223, x224, x225, x226, x227, x228, x229, x230, x231, x232, x233, x234, x235, x236, x237, x238, x239, x240, x241, x242, x243, x244, x245, x246, x247, x248, x249, x250, x251, x252, x253, x254, x255, x256, x257, x258, x259, x260, x261, x262, x263, x264, x265, x266, x267, x268, x269, x270, x271, x272, x273, x274, x275, x276, x277, x278, x279], []⟩ wc := by
  have s00 : wc.cell? ⟨X, 0, none⟩ = some (.int .u8 dd) := hX.box.cell 0
  have hB0 : Below wc.heap.size wc wc.drew := (Below.refl _ wc).drew
  replace hC := hC.below hB0
  replace hX := hX.below hB0
  replace hW := hW.trans (hB0.mono hbase)
  replace hbase : base ≤ wc.drew.heap.size := hbase
  clear hB0
  have hlen := hC.len
  have hnl : n < ns.length := (List.getElem?_eq_some_iff.1 hr).1
  have hkl : k < N := by rw [hN]; exact (List.getElem?_eq_some_iff.1 hk).1
  have hNd := hC.nodes n nb rv hn hr
  have how := hC.ows rv (List.mem_of_getElem? hr)
  have hln := hC.tks.llen
  have hns : ns.length ≤ 900 := by have := hF.1; omega
  have hLL : rv.1.L.length ≤ m := hF.2 rv (List.mem_of_getElem? hr)
  have hzd := hC.sized rv (List.mem_of_getElem? hr)
  have hkd := hC.kids rv (List.mem_of_getElem? hr)
  have hkN : k < ns.length := by rw [← hlen]; rw [hN, List.length_map] at hkl; exact hkl
  have B1 : (t : Int) < ((5 : Nat) : Int) := by omega
  have B1' : (t : Int) < (5 : Int) := by omega
  have B2 : (k : Int) < (N : Int) := by omega
  have D1 : Int.tmod (dd : Int) 8 = 7 := by rw [Int.tmod_eq_emod_of_nonneg (by omega)]; omega
  have D2 : (dd : Int) % 8 = 7 := by omega
  have call1 := hC.tks.endT t ht
  simp only [at0] at call1
  have hcl := fun (w1 : World) (bs1 : List NB) (h : Ctx base w1 X wb p xb (actB dd na ka ta i q) (.slice (some ⟨lg, 0, none⟩) N lc) (.slice (some ⟨tg, 0, none⟩) 5 tc) ts (bs.map (·.b)) bs1) => h.cells hN hk ht hC.tks.len
  unfold DoS at hcl
  obtain ⟨tv, htv⟩ : ∃ tv, tv = pt (owO ts t) := ⟨_, rfl⟩
  rw [← htv] at call1
  simp only [← htv] at hcl
  have HX := Lib.hid hX
  have HCL := Lib.hid hcl
  have HFA := Lib.hid (And.intro hC (And.intro hX.li (And.intro hF (And.intro hn (And.intro hr hNd)))))
  have HREF := Lib.hid hC.ref
  have HSZ := Lib.hid (And.intro hzd (And.intro hkd (And.intro how hLL)))
  have HC1 := Lib.hid call1
  have HLN := Lib.hid hlen
  clear hlen hln hN hns hcl hX hC hF hn hr hNd hzd hkd how hLL call1 htv hk
  simp only []
  conv => arg 2; whnf
  go_upto_region 22 with (fail)
  go_region_held3 (fun w1 : World => w1.cell? ⟨X, 0, none⟩ = some (.int .u8 dd) ∧ w1.cell? ⟨X, 4, none⟩ = some (.int .i64 i) ∧ w1.cell? ⟨X, 5, none⟩ = some (.string q.1) ∧ w1.cell? ⟨X, 6, none⟩ = some (.string q.2) ∧ w1.cell? ⟨wb, 0, none⟩ = some (.slice (some ⟨lg, 0, none⟩) N lc) ∧ w1.cell? ⟨wb, 1, none⟩ = some (.slice (some ⟨tg, 0, none⟩) 5 tc) ∧ w1.cell? ⟨wb, 2, none⟩ = some (.pointer (some ⟨p, 0, none⟩)) ∧ w1.cell? ⟨wb, 3, none⟩ = some (.pointer (some ⟨xb, 0, none⟩)) ∧ w1.cell? ⟨lg, k, none⟩ = some (.pointer (some ⟨kb, 0, none⟩)) ∧ w1.cell? ⟨tg, t, none⟩ = some tv) (first | exact HCL.out _ _ HX1.out | exact HCL.out _ _ HX.out) (first
    | (go_at_call 34; refine HC1.out.mono ?_; rintro e w6 ⟨⟨ve, rfl⟩, hT6, hk6, hs6⟩; have HX1 := Lib.hid (HX.out.ended HFA.out.1.tks t ht hk6)))
  obtain ⟨gl, cl, rfl, ⟨bb, g1⟩, g2, g3, g4, g5, g6⟩ := HFA.out.1.ended t ht hT6 hk6
  have HG := Lib.hid (And.intro g4 (And.intro g5 g6))
  have hs := HCL.out _ _ HX1.out
  obtain ⟨-, -, -, -, -, -, -, q3, -⟩ := hs
  have hB6 : Below base wc.drew w6 := ⟨hk6.all.os, hk6.all.tape, hk6.all.output, hk6.all.size, fun b hb => hk6.block b (by omega) fun hm => by
    have := HFA.out.1.endGe ht hm; omega⟩
  have HW6 := Lib.hid (hW.trans hB6)
  have hbb : base ≤ w6.heap.size := by omega
  clear g4 g5 g6 hT6 hk6 hB6 hW
  go_wp2_with fail
  go_ret
  obtain ⟨g4, g5, cs4, g6⟩ := HG.out
  exact ⟨rfl, .slice (some ⟨lg, 0, none⟩) N lc, Nv, .slice (some ⟨gl, 0, none⟩) 5 cl, lv.set t false, bs, ns, g4, HX1.out.li.stored g6 _, HFA.out.2.2.1.more, HW6.out.trans ((Below.refl _ _).setCell (p := ⟨gl, t, none⟩) g5 _)⟩
end Go.Proofs.Ytgldgdpgbfejmaa
