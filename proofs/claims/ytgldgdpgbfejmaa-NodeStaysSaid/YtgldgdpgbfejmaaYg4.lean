/- The law's 'do': a case. -/
import Derived.Test.YtgldgdpgbfejmaaYf
import Derived.Deep.RegionHeld3
namespace Go.Proofs.Ytgldgdpgbfejmaa
open Go.RowKit Go.Lib Go.Conc
set_option linter.unusedVariables false
set_option linter.unusedSimpArgs false
set_option maxRecDepth 1000000 in
set_option maxHeartbeats 8000000 in
theorem do4 (base p c xb wb m n k t X N lg tg lc tc kb dd na ka ta : Nat) (i : Int) (q : Pr) (Nv Lv : Value) (ts : List (Option Nat)) (lv : List Bool) (bs : List NB) (ns : List (RN × Value)) (nb : NB) (rv : RN × Value) (w0 wc : World)
    (hC : Cr base wc p c xb Nv Lv ts lv bs ns) (hX : Ctx base wc X wb p xb (actB dd na ka ta i q) (.slice (some ⟨lg, 0, none⟩) N lc) (.slice (some ⟨tg, 0, none⟩) 5 tc) ts (bs.map (·.b)) bs) (hF : Few m ns) (hW : Below base w0 wc) (hbase : base ≤ wc.heap.size)
    (hN : N = (bs.map (·.b)).length) (hn : bs[n]? = some nb) (hr : ns[n]? = some rv) (hk : (bs.map (·.b))[k]? = some kb) (ht : t < 5) (hm : m ≤ 800) (hq : q.1.size ≤ maxLen) (hd : dd % 8 = 4) (x1 x2 x11 x12 x13 x14 x15 x16 x17 x18 x19 x20 x21 x22 x23 x24 x25 x26 x27 x28 x29 x30 x31 x32 x33 x34 x35 x36 x37 x38 x39 x40 x41 x42 x43 x44 x45 x46 x47 x48 x49 x50 x51 x52 x53 x54 x55 x56 x57 x58 x59 x60 x61 x62 x63 x64 x65 x66 x67 x68 x69 x70 x71 x72 x73 x74 x75 x76 x77 x78 x79 x80 x81 x82 x83 x84 x85 x86 x87 x88 x89 x90 x91 x92 x93 x94 x95 x96 x97 x98 x99 x100 x101 x102 x103 x104 x105 x106 x107 x108 x109 x110 x111 x112 x113 x114 x115 x116 x117 x118 x119 x120 x121 x122 x123 x124 x125 x126 x127 x128 x129 x130 x131 x132 x133 x134 x135 x136 x137 x138 x139 x140 x141 x142 x143 x144 x145 x146 x147 x148 x149 x150 x151 x152 x153 x154 x155 x156 x157 x158 x159 x160 x161 x162 x163 x164 x165 x166 x167 x168 x169 x170 x171 x172 x173 x174 x175 x176 x177 x178 x179 x180 x181 x182 x183 x184 x185 x186 x187 x188 x189 x190 x191 x192 x193 x194 x195 x196 x197 x198 x199 x200 x201 x202 x203 x204 x205 x206 x207 x208 x209 x210 x211 x212 x213 x214 x215 x216 x217 x218 x219 x220 x221 x222 x223 x224 x225 x226 x227 x228 x229 x230 x231 x232 x233 x234 x235 x236 x237 x238 x239 x240 x241 x242 x243 x244 x245 x246 x247 x248 x249 x250 x251 x252 x253 x254 x255 x256 x257 x258 x259 x260 x261 x262 x263 x264 x265 x266 x267 x268 x269 x270 x271 x272 x273 x274 x275 x276 x277 x278 x279 : Value) :
    Code.wp Try.prog doMid (bodyPost Try.prog Try.f14 (DoPost base p c xb wb (.slice (some ⟨tg, 0, none⟩) 5 tc) ts m w0)) ⟨#[.pointer (some ⟨wb, 0, none⟩), x1, x2, .pointer (some ⟨X, 0, none⟩), .bool false, .int .i64 n, .int .i64 k, .int .i64 t, .pointer (some ⟨nb.b, 0, none⟩), .pointer none, .int .i64 (0 : Nat), x11, x12, x13, x14, x15, x16, x17, x18, x19, x20, x21, x22, x23, x24, x25, x26, x27, x28, x29, x30, x31, x32, x33, x34, x35, x36, x37, x38, x39, x40, x41, x42, x43, x44, x45, x46, x47, x48, x49, x50, x51, x52, x53, x54, x55, x56, x57, x58, x59, x60, x61, x62, x63, x64, x65, x66, x67, x68, x69, x70, x71, x72, x73, x74, x75, x76, x77, x78, x79, x80, x81, x82, x83, x84, x85, x86, x87, x88, x89, x90, x91, x92, x93, x94, x95, x96, x97, x98, x99, x100, x101, x102, x103, x104, x105, x106, x107, x108, x109, x110, x111, x112, x113, x114, x115, x116, x117, x118, x119, x120, x121, x122, x123, x124, x125, x126, x127, x128, x129, x130, x131, x132, x133, x134, x135, x136, x137, x138, x139, x140, x141, x142, x143, x144, x145, x146, x147, x148, x149, x150, x151, x152, x153, x154, x155, x156, x157, x158, x159, x160, x161, x162, x163, x164, x165, x166, x167, x168, x169, x170, x171, x172, x173, x174, x175, x176, x177, x178, x179, x180, x181, x182, x183, x184, x185, x186, x187, x188, x189, x190, x191, x192, x193, x194, x195, x196, x197, x198, x199, x200, x201, x202, x203, x204, x205, x206, x207, x208, x209, x210, x211, x212, x213, x214, x215, x216, x217, x218, x219, x220, x221, x222, x223, x224, x225, x226, x227, x228, x229, x230, x231, x232, x233, x234, x235, x236, x237, x238, x239, x240, x241, x242, x243, x244, x245, x246, x247, x248, x249, x250, x251, x252, x253, x254, x255, x256, x257, x258, x259, x260, x261, x262, x263, x264, x265, x266, x267, x268, x269, x270, x271, x272, x273, x274, x275, x276, x277, x278, x279], []⟩ wc := by
  have s00 : wc.cell? ⟨X, 0, none⟩ = some (.int .u8 dd) := hX.box.cell 0
  have hB0 : Below wc.heap.size wc wc.drew := (Below.refl _ wc).drew
  replace hC := hC.below hB0
  replace hX := hX.below hB0
  replace hW := hW.trans (hB0.mono hbase)
  replace hbase : base ≤ wc.drew.heap.size := hbase
  clear hB0
  have hlen := hC.len
  have hnl : n < ns.length := (List.getElem?_eq_some_iff.1 hr).1
  have hkl : k < N := by rw [hN]; exact (List.getElem?_eq_some_iff.1 hk).1
  have hNd := hC.nodes n nb rv hn hr
  have how := hC.ows rv (List.mem_of_getElem? hr)
  have hln := hC.tks.llen
  have hns : ns.length ≤ 900 := by have := hF.1; omega
  have hLL : rv.1.L.length ≤ m := hF.2 rv (List.mem_of_getElem? hr)
  have hzd := hC.sized rv (List.mem_of_getElem? hr)
  have hkd := hC.kids rv (List.mem_of_getElem? hr)
  have hkN : k < ns.length := by rw [← hlen]; rw [hN, List.length_map] at hkl; exact hkl
  have B1 : (t : Int) < ((5 : Nat) : Int) := by omega
  have B1' : (t : Int) < (5 : Int) := by omega
  have B2 : (k : Int) < (N : Int) := by omega
  have D1 : Int.tmod (dd : Int) 8 = 4 := by rw [Int.tmod_eq_emod_of_nonneg (by omega)]; omega
  have D2 : (dd : Int) % 8 = 4 := by omega
  have call1 := hNd.put hC.tks how ht hbase q (by omega)
  have call2 : ∀ w1, RefA base w1 xb Nv Lv ns lv → base ≤ w1.heap.size → Calls Try.prog 49 _ w1 _ := fun w1 h1 h2 => h1.chaPut hr ht hln hns (by omega) h2 q hzd hq
  simp only [Sl.isN, Sl.prN, Sl.kdN, at0, Pr.v] at call1 call2
  have hcl := fun (w1 : World) (bs1 : List NB) (h : Ctx base w1 X wb p xb (actB dd na ka ta i q) (.slice (some ⟨lg, 0, none⟩) N lc) (.slice (some ⟨tg, 0, none⟩) 5 tc) ts (bs.map (·.b)) bs1) => h.cells hN hk ht hC.tks.len
  unfold DoS at hcl
  obtain ⟨tv, htv⟩ : ∃ tv, tv = pt (owO ts t) := ⟨_, rfl⟩
  rw [← htv] at call1
  simp only [← htv] at hcl
  have HX := Lib.hid hX
  have HCL := Lib.hid hcl
  have HFA := Lib.hid (And.intro hC (And.intro hX.li (And.intro hF (And.intro hn (And.intro hr hNd)))))
  have HREF := Lib.hid hC.ref
  have HSZ := Lib.hid (And.intro hzd (And.intro hkd (And.intro how hLL)))
  have HC1 := Lib.hid call1
  have HC2 := Lib.hid call2
  have HLN := Lib.hid hlen
  clear hlen hln hN hns hcl hX hC hF hn hr hNd hzd hkd how hLL call1 call2 htv hk
  simp only []
  conv => arg 2; whnf
  go_upto_region 12 with (fail)
  go_region_held3 (fun w1 : World => w1.cell? ⟨X, 0, none⟩ = some (.int .u8 dd) ∧ w1.cell? ⟨X, 4, none⟩ = some (.int .i64 i) ∧ w1.cell? ⟨X, 5, none⟩ = some (.string q.1) ∧ w1.cell? ⟨X, 6, none⟩ = some (.string q.2) ∧ w1.cell? ⟨wb, 0, none⟩ = some (.slice (some ⟨lg, 0, none⟩) N lc) ∧ w1.cell? ⟨wb, 1, none⟩ = some (.slice (some ⟨tg, 0, none⟩) 5 tc) ∧ w1.cell? ⟨wb, 2, none⟩ = some (.pointer (some ⟨p, 0, none⟩)) ∧ w1.cell? ⟨wb, 3, none⟩ = some (.pointer (some ⟨xb, 0, none⟩)) ∧ w1.cell? ⟨lg, k, none⟩ = some (.pointer (some ⟨kb, 0, none⟩)) ∧ w1.cell? ⟨tg, t, none⟩ = some tv) (first | exact HCL.out _ _ HX1.out | exact HCL.out _ _ HX.out) (first
    | (have _g := hI; clear _g; go_at_call 49; refine (HC2.out _ HA1.out hb1).mono ?_; rintro e w7 ⟨Nv', vl', rfl, hA2, hK⟩; replace HX1 := Lib.hid (HX1.out.ref hK))
    | (go_at_call 22; refine HC1.out.mono ?_; rintro e w6 ⟨nb', rfl, hI, hc⟩; have HX1 := Lib.hid (HX.out.chg HFA.out.2.2.2.1 HFA.out.2.2.2.2.2 hc); have HA1 := Lib.hid (HREF.out.chg HFA.out.2.2.2.2.2 hc); have hb1 := Nat.le_trans hbase hc.keep.all.size; replace hI := Lib.hid hI; replace hc := Lib.hid hc; unfold at0))
  obtain ⟨f1, f2, fL⟩ := chaR_facts (lv := lv) (L := (putK rv.1.L q)) HSZ.out.2.2.1 ht HSZ.out.2.1
  have f3 : Sized (chaR rv.1 t lv (putK rv.1.L q)).2.L := by
    rcases fL with e | e
    · rw [e]; exact HSZ.out.1
    · rw [e]; exact sized_put HSZ.out.1 hq
  have f4 : (chaR rv.1 t lv (putK rv.1.L q)).2.L.length ≤ m + 1 := by
    have h1 := HSZ.out.2.2.2
    rcases fL with e | e
    · rw [e]; omega
    · rw [e]; have := putK_length rv.1.L q; omega
  have hBo := Both.of HFA.out.1 HFA.out.2.1 HFA.out.2.2.1 HFA.out.2.2.2.1 HFA.out.2.2.2.2.1 hI.out hc.out hA2 hK f1 f2 f3 f4
  have hW7 : Below base w0 w7 := (hW.trans (hc.out.belowAt HFA.out.2.2.2.2.2.footGe hbase)).trans hK.below
  have hb7 := Nat.le_trans hb1 hK.below.size
  have HBo := Lib.hid hBo
  have HW7 := Lib.hid hW7
  clear hBo hW7 f1 f2 f3 f4
  repeat (first | exact doTail_any base p c xb wb m n _ _ Lv _ _ ts lv bs ns w0 w7 HBo.out HW7.out HLN.out hnl hm hb7 _ _ _ _ _ _ _ _ _ _ _ _ _ _ _ _ _ _ _ _ _ _ _ _ _ _ _ _ _ _ _ _ _ _ _ _ _ _ _ _ _ _ _ _ _ _ _ _ _ _ _ _ _ _ _ _ _ _ _ _ _ _ _ _ _ _ _ _ _ _ _ _ _ _ _ _ _ _ _ _ _ _ _ _ _ _ _ _ _ _ _ _ _ _ _ _ _ _ _ _ _ _ _ _ _ _ _ _ _ _ _ _ _ _ _ _ _ _ _ _ _ _ _ _ _ _ _ _ _ _ _ _ _ _ _ _ _ _ _ _ _ _ _ _ _ _ _ _ _ _ _ _ _ _ _ _ _ _ _ _ _ _ _ _ _ _ _ _ _ _ _ _ _ _ _ _ _ _ _ _ _ _ _ _ _ _ _ _ _ _ _ _ _ _ _ _ _ _ _ _ _ _ _ _ _ _ _ _ _ _ _ _ _ _ _ _ _ _ _ _ _ _ _ _ _ _ _ _ _ _ _ _ _ _ _ _ _ _ _ _ _ _ _ _ _ _ _ _ _ _ _ _ _ _ _ _ _ _ _ _ _ _ _ _ _ _ _ _ _ _ _ _ _ _ _ _ _ | go_step)
end Go.Proofs.Ytgldgdpgbfejmaa
