/- The law's 'do': a new node. -/
import Derived.Test.YtgldgdpgbfejmaaYja
import Derived.Deep.RegionHeld3
namespace Go.Proofs.Ytgldgdpgbfejmaa
open Go.RowKit Go.Lib Go.Conc
set_option linter.unusedVariables false
set_option linter.unusedSimpArgs false
set_option maxRecDepth 1000000 in
set_option maxHeartbeats 8000000 in
theorem do6b (base p c xb wb m n k t X N lg tg lc tc kb dd na ka ta : Nat) (i r2 : Int) (q : Pr) (Nv Lv : Value) (ts : List (Option Nat)) (lv : List Bool) (bs : List NB) (ns : List (RN × Value)) (nb : NB) (rv : RN × Value) (w0 wc : World)
    (hC : Cr base wc p c xb Nv Lv ts lv bs ns) (hX : Ctx base wc X wb p xb (actB dd na ka ta i q) (.slice (some ⟨lg, 0, none⟩) N lc) (.slice (some ⟨tg, 0, none⟩) 5 tc) ts (bs.map (·.b)) bs) (hF : Few m ns) (hW : Below base w0 wc) (hbase : base ≤ wc.heap.size)
    (hN : N = (bs.map (·.b)).length) (hn : bs[n]? = some nb) (hr : ns[n]? = some rv) (hk : (bs.map (·.b))[k]? = some kb) (ht : t < 5) (hm : m ≤ 800) (hq : q.1.size ≤ maxLen) (hd : dd % 8 = 6) (hi2 : Int.tmod i 2 = r2) (hr2 : r2 ≠ 0) (x1 x2 x11 x12 x13 x14 x15 x16 x17 x18 x19 x20 x21 x22 x23 x24 x25 x26 x27 x28 x29 x30 x31 x32 x33 x34 x35 x36 x37 x38 x39 x40 x41 x42 x43 x44 x45 x46 x47 x48 x49 x50 x51 x52 x53 x54 x55 x56 x57 x58 x59 x60 x61 x62 x63 x64 x65 x66 x67 x68 x69 x70 x71 x72 x73 x74 x75 x76 x77 x78 x79 x80 x81 x82 x83 x84 x85 x86 x87 x88 x89 x90 x91 x92 x93 x94 x95 x96 x97 x98 x99 x100 x101 x102 x103 x104 x105 x106 x107 x108 x109 x110 x111 x112 x113 x114 x115 x116 x117 x118 x119 x120 x121 x122 x123 x124 x125 x126 x127 x128 x129 x130 x131 x132 x133 x134 x135 x136 x137 x138 x139 x140 x141 x142 x143 x144 x145 x146 x147 x148 x149 x150 x151 x152 x153 x154 x155 x156 x157 x158 x159 x160 x161 x162 x163 x164 x165 x166 x167 x168 x169 x170 x171 x172 x173 x174 x175 x176 x177 x178 x179 x180 x181 x182 x183 x184 x185 x186 x187 x188 x189 x190 x191 x192 x193 x194 x195 x196 x197 x198 x199 x200 x201 x202 x203 x204 x205 x206 x207 x208 x209 x210 x211 x212 x213 x214 x215 x216 x217 x218 x219 x220 x221 x222 x223 x224 x225 x226 x227 x228 x229 x230 x231 x232 x233 x234 x235 x236 x237 x238 x239 x240 x241 x242 x243 x244 x245 x246 x247 x248 x249 x250 x251 x252 x253 x254 x255 x256 x257 x258 x259 x260 x261 x262 x263 x264 x265 x266 x267 x268 x269 x270 x271 x272 x273 x274 x275 x276 x277 x278 x279 : Value) :
    Code.wp Try.prog doMid (bodyPost Try.prog Try.f14 (DoPost base p c xb wb (.slice (some ⟨tg, 0, none⟩) 5 tc) ts m w0)) ⟨#[.pointer (some ⟨wb, 0, none⟩), x1, x2, .pointer (some ⟨X, 0, none⟩), .bool false, .int .i64 n, .int .i64 k, .int .i64 t, .pointer (some ⟨nb.b, 0, none⟩), .pointer none, .int .i64 (0 : Nat), x11, x12, x13, x14, x15, x16, x17, x18, x19, x20, x21, x22, x23, x24, x25, x26, x27, x28, x29, x30, x31, x32, x33, x34, x35, x36, x37, x38, x39, x40, x41, x42, x43, x44, x45, x46, x47, x48, x49, x50, x51, x52, x53, x54, x55, x56, x57, x58, x59, x60, x61, x62, x63, x64, x65, x66, x67, x68, x69, x70, x71, x72, x73, x74, x75, x76, x77, x78, x79, x80, x81, x82, x83, x84, x85, x86, x87, x88, x89, x90, x91, x92, x93, x94, x95, x96, x97, x98, x99, x100, x101, x102, x103, x104, x105, x106, x107, x108, x109, x110, x111, x112, x113, x114, x115, x116, x117, x118, x119, x120, x121, x122, x123, x124, x125, x126, x127, x128, x129, x130, x131, x132, x133, x134, x135, x136, x137, x138, x139, x140, x141, x142, x143, x144, x145, x146, x147, x148, x149, x150, x151, x152, x153, x154, x155, x156, x157, x158, x159, x160, x161, x162, x163, x164, x165, x166, x167, x168, x169, x170, x171, x172, x173, x174, x175, x176, x177, x178, x179, x180, x181, x182, x183, x184, x185, x186, x187, x188, x189, x190, x191, x192, x193, x194, x195, x196, x197, x198, x199, x200, x201, x202, x203, x204, x205, x206, x207, x208, x209, x210, x211, x212, x213, x214, x215, x216, x217, x218, x219, x220, x221, x222, x223, x224, x225, x226, x227, x228, x229, x230, x231, x232, x233, x234, x235, x236, x237, x238, x239, x240, x241, x242, x243, x244, x245, x246, x247, x248, x249, x250, x251, x252, x253, x254, x255, x256, x257, x258, x259, x260, x261, x262, x263, x264, x265, x266, x267, x268, x269, x270, x271, x272, x273, x274, x275, x276, x277, x278, x279], []⟩ wc := by
  have s00 : wc.cell? ⟨X, 0, none⟩ = some (.int .u8 dd) := hX.box.cell 0
  have hlen := hC.len
  have hnl : n < ns.length := (List.getElem?_eq_some_iff.1 hr).1
  have hkl : k < N := by rw [hN]; exact (List.getElem?_eq_some_iff.1 hk).1
  have hNd := hC.nodes n nb rv hn hr
  have how := hC.ows rv (List.mem_of_getElem? hr)
  have hln := hC.tks.llen
  have hns : ns.length ≤ 900 := by have := hF.1; omega
  have hLL : rv.1.L.length ≤ m := hF.2 rv (List.mem_of_getElem? hr)
  have hzd := hC.sized rv (List.mem_of_getElem? hr)
  have hkd := hC.kids rv (List.mem_of_getElem? hr)
  have hkN : k < ns.length := by rw [← hlen]; rw [hN, List.length_map] at hkl; exact hkl
  obtain ⟨g, cap, cur85, rfl, -⟩ := own_blk hC.ref.nodes (by omega)
  have hNn : N = ns.length := by rw [hN, List.length_map, hlen]
  have B1 : (t : Int) < ((5 : Nat) : Int) := by omega
  have B1' : (t : Int) < (5 : Int) := by omega
  have B2 : (k : Int) < (N : Int) := by omega
  have D1 : Int.tmod (dd : Int) 8 = 6 := by rw [Int.tmod_eq_emod_of_nonneg (by omega)]; omega
  have D2 : (dd : Int) % 8 = 6 := by omega
  have hcl := fun (w1 : World) (bs1 : List NB) (h : Ctx base w1 X wb p xb (actB dd na ka ta i q) (.slice (some ⟨lg, 0, none⟩) N lc) (.slice (some ⟨tg, 0, none⟩) 5 tc) ts (bs.map (·.b)) bs1) => h.cells hN hk ht hC.tks.len
  unfold DoS at hcl
  obtain ⟨tv, htv⟩ : ∃ tv, tv = pt (owO ts t) := ⟨_, rfl⟩
  simp only [← htv] at hcl
  have HX := Lib.hid hX
  have HCL := Lib.hid hcl
  have HFA := Lib.hid (And.intro hC (And.intro hX.li (And.intro hF (And.intro hn (And.intro hr hNd)))))
  have HREF := Lib.hid hC.ref
  have HSZ := Lib.hid (And.intro hzd (And.intro hkd (And.intro how hLL)))
  have HLN := Lib.hid hlen
  have HNn := Lib.hid hNn
  have HZ := Lib.hid hC.tks.zero
  have hns9 := hns
  clear hlen hNn hln hN hns hcl hX hC hF hn hr hNd hzd hkd how hLL htv hk
  simp only []
  conv => arg 2; whnf
  go_upto_region 16 with (fail)
  have hnew := Inn.new wc
  go_wp2_with fail
  refine hnew.mono ?_
  rintro e w6 ⟨b1, rfl, hb1, hI6, hB6⟩
  unfold at0
  have a4 : w6.cell? ⟨X, 4, none⟩ = some (.int .i64 i) := (HX.out.below hB6).box.cell 4
  have hnw := bucket_any w6
  clear hnew hI6 hb1
  go_upto_region 18 with (fail)
  go_wp2_with fail
  refine hnw.mono ?_
  rintro e w7 ⟨rfl, hI7, hB7⟩
  unfold at0
  obtain ⟨b1, hb1e⟩ : ∃ b1, b1 = w6.heap.size := ⟨_, rfl⟩
  rw [← hb1e] at hI7 ⊢
  have hIs : NodeIs base w7 ts (bs.map (·.b)) ⟨b1, .slice none 0 0, .slice none 0 0⟩ (rn0 true) := by
    unfold NodeIs
    rw [if_pos (show (rn0 true).bk = true from rfl)]
    refine ⟨fun _ => rfl, ?_, List.Pairwise.nil⟩
    have e : owO ts (rn0 true).ow = none := by unfold owO rn0; rw [HZ.out.1]; rfl
    rw [e]
    exact hI7.base (by rw [hb1e]; exact Nat.le_trans hbase hB6.size)
  have hBB : Below wc.heap.size wc w7 := hB6.trans (hB7.mono hB6.size)
  have hge1 : wc.heap.size ≤ b1 := by rw [hb1e]; exact hB6.size
  clear hnw hI7 hB6 hB7 hb1e a4
  go_upto_region 19 with (fail)
  have hBd : Below wc.heap.size wc w7.drew := hBB.drew
  have HIW := Lib.hid (hIs.below (w' := w7.drew) (Below.refl _ w7).drew)
  have HAW := Lib.hid (HREF.out.below hBd)
  have HXW := Lib.hid (HX.out.below hBd)
  have hbW : base ≤ w7.drew.heap.size := Nat.le_trans hbase hBd.size
  have HBd := Lib.hid hBd
  clear hBd hBB hIs
  obtain ⟨i85, z85, hi85, hz85, hz85s, hz85b, hz85c⟩ := info85z
  have hS : (fun w' : World => w'.cell? ⟨wb, 3, none⟩ = some (.pointer (some ⟨xb, 0, none⟩)) ∧ w'.cell? ⟨xb, 0, none⟩ = some (.slice (some ⟨g, 0, none⟩) ns.length cap) ∧ w'.cell? ⟨X, 4, none⟩ = some (.int .i64 i)) w7.drew := ⟨HXW.out.li.blk.cell 3, HAW.out.cells.1, HXW.out.box.cell 4⟩
  refine wp_region_late (S := (fun w' : World => w'.cell? ⟨wb, 3, none⟩ = some (.pointer (some ⟨xb, 0, none⟩)) ∧ w'.cell? ⟨xb, 0, none⟩ = some (.slice (some ⟨g, 0, none⟩) ns.length cap) ∧ w'.cell? ⟨X, 4, none⟩ = some (.int .i64 i))) (st := 20) (by kernel_rfl) ?_
  generalize w7.drew = W at *
  refine wpAnyL_take0 (i := 0) (oi := { dst := some 181, op := Go.Op.move (Go.Operand.tmp 0), type := 24, pos := "law.go:68", after := #[], guard := none }) (v := .pointer (some ⟨wb, 0, none⟩)) rfl (by kernel_rfl) (by kernel_rfl) (by kernel_rfl) (by kernel_rfl) (fun _ _ _ h => h) hS (Or.inl ⟨by rfl, fun w hSw => ?_⟩) ?_
  · go_split_ands
    go_simp
  try simp only [Act.put, List.setIfInBounds_toArray, List.set_cons_zero, List.set_cons_succ]
  refine wpAnyL_take0 (i := 1) (oi := { dst := some 182, op := Go.Op.nilCheck (Go.Operand.tmp 181), type := 0, pos := "law.go:68", after := #[{ on := 0, ground := Go.Ground.data }], guard := none }) (v := .pointer (some ⟨wb, 0, none⟩)) rfl (by kernel_rfl) (by kernel_rfl) (by kernel_rfl) (by kernel_rfl) (fun _ _ _ h => h) hS (Or.inl ⟨by rfl, fun w hSw => ?_⟩) ?_
  · go_split_ands
    go_simp
  try simp only [Act.put, List.setIfInBounds_toArray, List.set_cons_zero, List.set_cons_succ]
  refine wpAnyL_take0 (i := 2) (oi := { dst := some 183, op := Go.Op.fieldAddr 36 (Go.Operand.tmp 182) 3, type := 0, pos := "law.go:68", after := #[{ on := 1, ground := Go.Ground.data }], guard := none }) (v := .pointer (some ⟨wb, 3, none⟩)) rfl (by kernel_rfl) (by kernel_rfl) (by kernel_rfl) (by kernel_rfl) (fun _ _ _ h => h) hS (Or.inl ⟨by rfl, fun w hSw => ?_⟩) ?_
  · go_split_ands
    go_simp
  try simp only [Act.put, List.setIfInBounds_toArray, List.set_cons_zero, List.set_cons_succ]
  refine wpAnyL_take (i := 3) (oi := { dst := some 184, op := Go.Op.load 34 (Go.Operand.tmp 183), type := 34, pos := "law.go:68", after := #[{ on := 2, ground := Go.Ground.data }], guard := none }) (v := .pointer (some ⟨xb, 0, none⟩)) rfl (by kernel_rfl) (by kernel_rfl) (by kernel_rfl) (by kernel_rfl) (fun _ _ _ h => h) hS (Or.inl ⟨by rfl, fun w hSw => ?_⟩) ?_
  · go_split_ands
    go_simp
  try simp only [Act.put, List.setIfInBounds_toArray, List.set_cons_zero, List.set_cons_succ]
  refine wpAnyL_take0 (i := 4) (oi := { dst := some 185, op := Go.Op.move (Go.Operand.tmp 0), type := 24, pos := "law.go:68", after := #[], guard := none }) (v := .pointer (some ⟨wb, 0, none⟩)) rfl (by kernel_rfl) (by kernel_rfl) (by kernel_rfl) (by kernel_rfl) (fun _ _ _ h => h) hS (Or.inl ⟨by rfl, fun w hSw => ?_⟩) ?_
  · go_split_ands
    go_simp
  try simp only [Act.put, List.setIfInBounds_toArray, List.set_cons_zero, List.set_cons_succ]
  refine wpAnyL_take0 (i := 5) (oi := { dst := some 186, op := Go.Op.nilCheck (Go.Operand.tmp 185), type := 0, pos := "law.go:68", after := #[{ on := 4, ground := Go.Ground.data }], guard := none }) (v := .pointer (some ⟨wb, 0, none⟩)) rfl (by kernel_rfl) (by kernel_rfl) (by kernel_rfl) (by kernel_rfl) (fun _ _ _ h => h) hS (Or.inl ⟨by rfl, fun w hSw => ?_⟩) ?_
  · go_split_ands
    go_simp
  try simp only [Act.put, List.setIfInBounds_toArray, List.set_cons_zero, List.set_cons_succ]
  refine wpAnyL_take0 (i := 6) (oi := { dst := some 187, op := Go.Op.fieldAddr 36 (Go.Operand.tmp 186) 3, type := 0, pos := "law.go:68", after := #[{ on := 5, ground := Go.Ground.data }], guard := none }) (v := .pointer (some ⟨wb, 3, none⟩)) rfl (by kernel_rfl) (by kernel_rfl) (by kernel_rfl) (by kernel_rfl) (fun _ _ _ h => h) hS (Or.inl ⟨by rfl, fun w hSw => ?_⟩) ?_
  · go_split_ands
    go_simp
  try simp only [Act.put, List.setIfInBounds_toArray, List.set_cons_zero, List.set_cons_succ]
  refine wpAnyL_take (i := 7) (oi := { dst := some 188, op := Go.Op.load 34 (Go.Operand.tmp 187), type := 34, pos := "law.go:68", after := #[{ on := 6, ground := Go.Ground.data }], guard := none }) (v := .pointer (some ⟨xb, 0, none⟩)) rfl (by kernel_rfl) (by kernel_rfl) (by kernel_rfl) (by kernel_rfl) (fun _ _ _ h => h) hS (Or.inl ⟨by rfl, fun w hSw => ?_⟩) ?_
  · go_split_ands
    go_simp
  try simp only [Act.put, List.setIfInBounds_toArray, List.set_cons_zero, List.set_cons_succ]
  refine wpAnyL_take0 (i := 8) (oi := { dst := some 189, op := Go.Op.nilCheck (Go.Operand.tmp 188), type := 0, pos := "law.go:68", after := #[{ on := 7, ground := Go.Ground.data }], guard := none }) (v := .pointer (some ⟨xb, 0, none⟩)) rfl (by kernel_rfl) (by kernel_rfl) (by kernel_rfl) (by kernel_rfl) (fun _ _ _ h => h) hS (Or.inl ⟨by rfl, fun w hSw => ?_⟩) ?_
  · go_split_ands
    go_simp
  try simp only [Act.put, List.setIfInBounds_toArray, List.set_cons_zero, List.set_cons_succ]
  refine wpAnyL_take0 (i := 9) (oi := { dst := some 190, op := Go.Op.fieldAddr 89 (Go.Operand.tmp 189) 0, type := 0, pos := "law.go:68", after := #[{ on := 8, ground := Go.Ground.data }], guard := none }) (v := .pointer (some ⟨xb, 0, none⟩)) rfl (by kernel_rfl) (by kernel_rfl) (by kernel_rfl) (by kernel_rfl) (fun _ _ _ h => h) hS (Or.inl ⟨by rfl, fun w hSw => ?_⟩) ?_
  · go_split_ands
    go_simp
  try simp only [Act.put, List.setIfInBounds_toArray, List.set_cons_zero, List.set_cons_succ]
  refine wpAnyL_take (i := 10) (oi := { dst := some 191, op := Go.Op.load 86 (Go.Operand.tmp 190), type := 86, pos := "law.go:68", after := #[{ on := 9, ground := Go.Ground.data }], guard := none }) (v := .slice (some ⟨g, 0, none⟩) ns.length cap) rfl (by kernel_rfl) (by kernel_rfl) (by kernel_rfl) (by kernel_rfl) (fun _ _ _ h => h) hS (Or.inl ⟨by rfl, fun w hSw => ?_⟩) ?_
  · go_split_ands
    go_simp
  try simp only [Act.put, List.setIfInBounds_toArray, List.set_cons_zero, List.set_cons_succ]
  refine wpAnyL_take0 (i := 11) (oi := { dst := some 192, op := Go.Op.fieldAddr 29 (Go.Operand.tmp 3) 4, type := 0, pos := "law.go:68", after := #[], guard := none }) (v := .pointer (some ⟨X, 4, none⟩)) rfl (by kernel_rfl) (by kernel_rfl) (by kernel_rfl) (by kernel_rfl) (fun _ _ _ h => h) hS (Or.inl ⟨by rfl, fun w hSw => ?_⟩) ?_
  · go_split_ands
    go_simp
  try simp only [Act.put, List.setIfInBounds_toArray, List.set_cons_zero, List.set_cons_succ]
  refine wpAnyL_take (i := 12) (oi := { dst := some 193, op := Go.Op.load 3 (Go.Operand.tmp 192), type := 3, pos := "law.go:68", after := #[{ on := 11, ground := Go.Ground.data }], guard := none }) (v := .int .i64 i) rfl (by kernel_rfl) (by kernel_rfl) (by kernel_rfl) (by kernel_rfl) (fun _ _ _ h => h) hS (Or.inl ⟨by rfl, fun w hSw => ?_⟩) ?_
  · go_split_ands
    go_simp
  try simp only [Act.put, List.setIfInBounds_toArray, List.set_cons_zero, List.set_cons_succ]
  refine wpAnyL_take0 (i := 13) (oi := { dst := some 194, op := Go.Op.binOp Go.BinOp.rem 3 (Go.Operand.tmp 193) (Go.Operand.const (Go.Value.int Go.IntKind.i64 2)) 3, type := 3, pos := "law.go:68", after := #[{ on := 12, ground := Go.Ground.data }], guard := none }) (v := .int .i64 r2) rfl (by kernel_rfl) (by kernel_rfl) (by kernel_rfl) (by kernel_rfl) (fun _ _ _ h => h) hS (Or.inl ⟨by rfl, fun w hSw => ?_⟩) ?_
  · go_split_ands
    go_simp
  try simp only [Act.put, List.setIfInBounds_toArray, List.set_cons_zero, List.set_cons_succ]
  refine wpAnyL_take0 (i := 14) (oi := { dst := some 195, op := Go.Op.binOp Go.BinOp.neq 3 (Go.Operand.tmp 194) (Go.Operand.const (Go.Value.int Go.IntKind.i64 0)) 3, type := 4, pos := "law.go:68", after := #[{ on := 13, ground := Go.Ground.data }], guard := none }) (v := .bool true) rfl (by kernel_rfl) (by kernel_rfl) (by kernel_rfl) (by kernel_rfl) (fun _ _ _ h => h) hS (Or.inl ⟨by rfl, fun w hSw => ?_⟩) ?_
  · go_split_ands
    go_simp
  try simp only [Act.put, List.setIfInBounds_toArray, List.set_cons_zero, List.set_cons_succ]
  refine wpAnyL_take0 (i := 15) (oi := { dst := some 196, op := Go.Op.build 85 #[(0, Go.Operand.tmp 195)], type := 85, pos := "law.go:68", after := #[{ on := 14, ground := Go.Ground.data }], guard := none }) (v := .agg (rcells (rn0 true) (.slice none 0 0)).toArray) rfl (by kernel_rfl) (by kernel_rfl) (by kernel_rfl) (by kernel_rfl) (fun _ _ _ h => h) hS (Or.inl ⟨by rfl, fun w hSw => ?_⟩) ?_
  · exact build85 _ _ _ _ _ rfl rfl
  try simp only [Act.put, List.setIfInBounds_toArray, List.set_cons_zero, List.set_cons_succ]
  refine wpAnyL_ready (rs := [16]) (by kernel_rfl) (by simp) ?_
  refine AllReadyL.cons (o := { dst := some 197, op := Go.Op.buildSlice 86 1 #[(0, Go.Operand.tmp 196)], type := 86, pos := "law.go:68", after := #[{ on := 15, ground := Go.Ground.data }], guard := none }) rfl (fun K hK => ?_) AllReadyL.nil
  rw [if_pos (by rfl)]
  refine wp_buildSlice 86 85 1 _ rfl (rcells (rn0 true) (.slice none 0 0)).toArray i85 z85 Try.underlying86 hi85 hz85 (by rw [hz85s]; decide) (by rw [hz85s]; decide) (by rw [hz85s]; simp only [List.map_toArray, List.map_cons, List.map_nil]; exact fill_whole (rcells (rn0 true) (.slice none 0 0)) 131 (Array.map (fun x => z85.cells[x % z85.cells.size]!) (Array.range (1 * 131))) (rcells_len _ _) (by rw [Array.size_map, Array.size_range])) ?_
  have hnew := Blk.new W 85 (rcells (rn0 true) (.slice none 0 0)).toArray
  have hBA := (Below.refl _ W).alloc (Nat.le_refl _) (.cells (rcells (rn0 true) (.slice none 0 0)).toArray 85)
  have hA4 := HAW.out.below hBA
  have hXA := HXW.out.below hBA
  have hbA : base ≤ (W.alloc (.cells (rcells (rn0 true) (.slice none 0 0)).toArray 85)).heap.size := Nat.le_trans hbW hBA.size
  have hS4 : (fun w' : World => w'.cell? ⟨wb, 3, none⟩ = some (.pointer (some ⟨xb, 0, none⟩)) ∧ w'.cell? ⟨xb, 0, none⟩ = some (.slice (some ⟨g, 0, none⟩) ns.length cap) ∧ w'.cell? ⟨X, 4, none⟩ = some (.int .i64 i)) (W.alloc (.cells (rcells (rn0 true) (.slice none 0 0)).toArray 85)) := ⟨hXA.li.blk.cell 3, hA4.cells.1, hXA.box.cell 4⟩
  refine hK.out _ _ (fun _ => hS4) ?_
  clear hK K hS
  try simp only [Act.put, List.setIfInBounds_toArray, List.set_cons_zero, List.set_cons_succ]
  have hS := hS4
  have HBA := Lib.hid hBA
  clear hS4 hBA
  have hMl : W.heap.size < (W.alloc (.cells (rcells (rn0 true) (.slice none 0 0)).toArray 85)).heap.size := by simp
  obtain ⟨M, hM⟩ : ∃ M, M = W.heap.size := ⟨_, rfl⟩
  rw [← hM] at hnew hMl ⊢
  clear hM
  generalize W.alloc (.cells (rcells (rn0 true) (.slice none 0 0)).toArray 85) = W5 at *
  refine wpAnyL_ready (rs := [17]) (by kernel_rfl) (by simp) ?_
  refine AllReadyL.cons (o := { dst := some 198, op := Go.Op.call { callee := Go.Callee.builtin Go.Builtin.append, args := #[Go.Operand.tmp 191, Go.Operand.tmp 197], argTypes := #[86, 86] }, type := 86, pos := "law.go:68", after := #[{ on := 10, ground := Go.Ground.data }, { on := 16, ground := Go.Ground.data }], guard := none }) rfl (fun K hK => ?_) AllReadyL.nil
  refine step_append_lies _ (by rfl) _ _ 86 (by rfl) base 85 i85 z85 131 1576 Try.underlying86 hi85 hz85 hz85s hz85b hz85c (by decide) (.slice (some ⟨g, 0, none⟩) ns.length cap) ns.length (rrow ns) (by rfl) hA4.nodes ⟨M, 0, none⟩ 1 1 (rcells (rn0 true) (.slice none 0 0)) (by rfl) (by rw [rcells_len]) (fun j u hu => by rw [addr_at, Nat.zero_add, hnew.cell]; simpa using hu) (rcells_one (rn0 true) (.slice none 0 0) rfl) (by omega) (by unfold maxLen; omega) (by omega) hbA _ rfl ?_
  intro g1 cap1 W6 hown1 hgrow1 hat1 hlt1
  obtain ⟨hbx6, hfin, hkp, hg6⟩ := hA4.grow true hown1 hgrow1 hbA
  have hX6 : Ctx base W6 X wb p xb (actB dd na ka ta i q) (.slice (some ⟨lg, 0, none⟩) N lc) (.slice (some ⟨tg, 0, none⟩) 5 tc) ts (bs.map (·.b)) bs := by
    obtain ⟨cs85, hc85⟩ := own_cells hA4.nodes g rfl
    have kk : Keep [g] W5 W6 := ⟨⟨hgrow1.os, hgrow1.tape, hgrow1.output, hgrow1.size, fun i hi => by omega⟩, fun j hj hx => hg6 j hj (by simpa using hx)⟩
    refine ⟨hXA.box.keep kk fun hm => ?_, hXA.li.blk.keep kk fun hm => ?_, hXA.li.ge, own_keep hXA.li.l kk fun x hx e => ?_, own_keep hXA.li.t kk fun x hx e => ?_, hXA.li.lfoot⟩
    · have h1 := hXA.box
      rw [List.mem_singleton.1 hm] at h1
      unfold Blk at h1; rw [h1] at hc85; cases hc85
    · have h1 := hXA.li.blk
      rw [List.mem_singleton.1 hm] at h1
      unfold Blk at h1; rw [h1] at hc85; cases hc85
    · obtain ⟨cs, h1⟩ := own_cells hXA.li.l x e
      rw [List.mem_singleton.1 hx, hc85] at h1; cases h1
    · obtain ⟨cs, h1⟩ := own_cells hXA.li.t x e
      rw [List.mem_singleton.1 hx, hc85] at h1; cases h1
  have hS6 : (fun w' : World => w'.cell? ⟨wb, 3, none⟩ = some (.pointer (some ⟨xb, 0, none⟩)) ∧ w'.cell? ⟨xb, 0, none⟩ = some (.slice (some ⟨g, 0, none⟩) ns.length cap) ∧ w'.cell? ⟨X, 4, none⟩ = some (.int .i64 i)) W6 := ⟨hX6.li.blk.cell 3, hbx6.cell 0, hX6.box.cell 4⟩
  refine hK.out _ _ (fun _ => hS6) ?_
  clear hK K hS
  try simp only [Act.put, List.setIfInBounds_toArray, List.set_cons_zero, List.set_cons_succ]
  have hS := hS6
  have f6 := hbx6.frozen 0
  have k6 := hbx6.cell 0
  simp only [List.getElem?_toArray, List.getElem?_cons_succ, List.getElem?_cons_zero] at k6
  have hsz6 := hgrow1.size
  refine wpAnyL_take0 (i := 18) (oi := { dst := some 199, op := Go.Op.nilCheck (Go.Operand.tmp 184), type := 0, pos := "law.go:68", after := #[{ on := 3, ground := Go.Ground.data }, { on := 0, ground := Go.Ground.phase }, { on := 1, ground := Go.Ground.phase }, { on := 2, ground := Go.Ground.phase }, { on := 3, ground := Go.Ground.phase }, { on := 4, ground := Go.Ground.phase }, { on := 5, ground := Go.Ground.phase }, { on := 6, ground := Go.Ground.phase }, { on := 7, ground := Go.Ground.phase }, { on := 8, ground := Go.Ground.phase }, { on := 9, ground := Go.Ground.phase }, { on := 10, ground := Go.Ground.phase }, { on := 11, ground := Go.Ground.phase }, { on := 12, ground := Go.Ground.phase }, { on := 13, ground := Go.Ground.phase }, { on := 14, ground := Go.Ground.phase }, { on := 15, ground := Go.Ground.phase }, { on := 16, ground := Go.Ground.phase }, { on := 17, ground := Go.Ground.phase }], guard := none }) (v := .pointer (some ⟨xb, 0, none⟩)) rfl (by kernel_rfl) (by kernel_rfl) (by kernel_rfl) (by kernel_rfl) (fun _ _ _ h => h) hS (Or.inl ⟨by rfl, fun w hSw => ?_⟩) ?_
  · go_split_ands
    go_simp
  try simp only [Act.put, List.setIfInBounds_toArray, List.set_cons_zero, List.set_cons_succ]
  refine wpAnyL_take0 (i := 19) (oi := { dst := some 200, op := Go.Op.fieldAddr 89 (Go.Operand.tmp 199) 0, type := 0, pos := "law.go:68", after := #[{ on := 18, ground := Go.Ground.data }, { on := 0, ground := Go.Ground.phase }, { on := 1, ground := Go.Ground.phase }, { on := 2, ground := Go.Ground.phase }, { on := 3, ground := Go.Ground.phase }, { on := 4, ground := Go.Ground.phase }, { on := 5, ground := Go.Ground.phase }, { on := 6, ground := Go.Ground.phase }, { on := 7, ground := Go.Ground.phase }, { on := 8, ground := Go.Ground.phase }, { on := 9, ground := Go.Ground.phase }, { on := 10, ground := Go.Ground.phase }, { on := 11, ground := Go.Ground.phase }, { on := 12, ground := Go.Ground.phase }, { on := 13, ground := Go.Ground.phase }, { on := 14, ground := Go.Ground.phase }, { on := 15, ground := Go.Ground.phase }, { on := 16, ground := Go.Ground.phase }, { on := 17, ground := Go.Ground.phase }], guard := none }) (v := .pointer (some ⟨xb, 0, none⟩)) rfl (by kernel_rfl) (by kernel_rfl) (by kernel_rfl) (by kernel_rfl) (fun _ _ _ h => h) hS (Or.inl ⟨by rfl, fun w hSw => ?_⟩) ?_
  · go_split_ands
    go_simp
  try simp only [Act.put, List.setIfInBounds_toArray, List.set_cons_zero, List.set_cons_succ]
  refine wpAnyL_ready (rs := [20]) (by kernel_rfl) (by simp) ?_
  refine AllReadyL.cons (o := { dst := none, op := Go.Op.store 86 (Go.Operand.tmp 200) (Go.Operand.tmp 198), type := 0, pos := "law.go:68", after := #[{ on := 19, ground := Go.Ground.data }, { on := 17, ground := Go.Ground.data }, { on := 17, ground := Go.Ground.chain }, { on := 0, ground := Go.Ground.phase }, { on := 1, ground := Go.Ground.phase }, { on := 2, ground := Go.Ground.phase }, { on := 3, ground := Go.Ground.phase }, { on := 4, ground := Go.Ground.phase }, { on := 5, ground := Go.Ground.phase }, { on := 6, ground := Go.Ground.phase }, { on := 7, ground := Go.Ground.phase }, { on := 8, ground := Go.Ground.phase }, { on := 9, ground := Go.Ground.phase }, { on := 10, ground := Go.Ground.phase }, { on := 11, ground := Go.Ground.phase }, { on := 12, ground := Go.Ground.phase }, { on := 13, ground := Go.Ground.phase }, { on := 14, ground := Go.Ground.phase }, { on := 15, ground := Go.Ground.phase }, { on := 16, ground := Go.Ground.phase }, { on := 17, ground := Go.Ground.phase }], guard := none }) rfl (fun K hK => ?_) AllReadyL.nil
  go_simp
  refine hK.out _ _ (late_noR (by kernel_rfl)) ?_
  clear hK K hS hS6
  try simp only [Act.put, List.setIfInBounds_toArray, List.set_cons_zero, List.set_cons_succ]
  refine wpAnyL_done (by kernel_rfl) ?_ _
  have hX7 := hXA.ref hkp
  have hI5 := HIW.out.below HBA.out
  have hB5 : Below wc.heap.size wc W5 := HBd.out.trans (HBA.out.mono HBd.out.size)
  have hcg : Chg false nb.b nb.pv nb.kv b1 (.slice none 0 0) (.slice none 0 0) wc W5 := new_chg (nb := nb) (nb' := ⟨b1, .slice none 0 0, .slice none 0 0⟩) (base := base) (fun x hx => by
    simp [NB.foot, foot, Value.ownBlock] at hx
    omega) hB5
  have hBo := Both.of (nb' := ⟨b1, .slice none 0 0, .slice none 0 0⟩) (y := (false, rn0 true)) (vl' := .slice none 0 0) HFA.out.1 HFA.out.2.1 HFA.out.2.2.1 HFA.out.2.2.2.1 HFA.out.2.2.2.2.1 hI5 hcg hfin hkp (fun _ _ e => by cases e) (by show (0 : Nat) < 5; decide) (by intro j; simp [rn0, pat]) (by simp [rn0])
  have hW7 : Below base w0 _ := (hW.trans (hB5.mono hbase)).trans hkp.below
  have hb7 := Nat.le_trans hbA hkp.below.size
  have HBo := Lib.hid hBo
  have HW7 := Lib.hid hW7
  have z0 := hX7.li.blk.cell 0
  simp only [List.getElem?_toArray, List.getElem?_cons_succ, List.getElem?_cons_zero] at z0
  clear hBo hW7 hfin hkp hbx6 hg6 hown1 hgrow1 k6 f6 hX7 hX6 hXA hA4 hI5 hcg hB5 hnew hat1
  generalize W6.setCell ⟨xb, 0, none⟩ (.slice (some ⟨g1, 0, none⟩) (ns.length + 1) cap1) = W7 at *
  obtain rfl := HNn.out
  repeat (first | exact doTail_any base p c xb wb m n _ false Lv _ _ ts lv bs ns w0 W7 HBo.out HW7.out HLN.out hnl hm hb7 _ _ _ _ _ _ _ _ _ _ _ _ _ _ _ _ _ _ _ _ _ _ _ _ _ _ _ _ _ _ _ _ _ _ _ _ _ _ _ _ _ _ _ _ _ _ _ _ _ _ _ _ _ _ _ _ _ _ _ _ _ _ _ _ _ _ _ _ _ _ _ _ _ _ _ _ _ _ _ _ _ _ _ _ _ _ _ _ _ _ _ _ _ _ _ _ _ _ _ _ _ _ _ _ _ _ _ _ _ _ _ _ _ _ _ _ _ _ _ _ _ _ _ _ _ _ _ _ _ _ _ _ _ _ _ _ _ _ _ _ _ _ _ _ _ _ _ _ _ _ _ _ _ _ _ _ _ _ _ _ _ _ _ _ _ _ _ _ _ _ _ _ _ _ _ _ _ _ _ _ _ _ _ _ _ _ _ _ _ _ _ _ _ _ _ _ _ _ _ _ _ _ _ _ _ _ _ _ _ _ _ _ _ _ _ _ _ _ _ _ _ _ _ _ _ _ _ _ _ _ _ _ _ _ _ _ _ _ _ _ _ _ _ _ _ _ _ _ _ _ _ _ _ _ _ _ _ _ _ _ _ _ _ _ _ _ _ _ _ _ _ _ _ _ _ _ _ | go_step)
end Go.Proofs.Ytgldgdpgbfejmaa
