/- The law's 'do' from where its ways meet. -/
import Derived.Test.YtgldgdpgbfejmaaMY
namespace Go.Proofs.Ytgldgdpgbfejmaa
open Go.RowKit Go.Lib Go.Conc
set_option linter.unusedVariables false
set_option linter.unusedSimpArgs false
/-- the code from a region on -/
def startsAt (k : Nat) : Code → Bool
  | .region i _ _ => i == k
  | .seq a _ => startsAt k a
  | _ => false
def fromRegion (k : Nat) : Code → Option Code
  | .seq a b => if startsAt k a then some (.seq a b) else fromRegion k b
  | _ => none
noncomputable def doTail : Code := (Try.f14.body.bind (fromRegion 25)).getD .skip
theorem OwnK.atK {base : Nat} {w : World} {v : Value} {ks : List Nat} (h : OwnK base w v ks) (j b : Nat) (hj : ks[j]? = some b) : ∃ g cap, v = .slice (some ⟨g, 0, none⟩) ks.length cap ∧ j < ks.length ∧ w.cell? ⟨g, j, none⟩ = some (at0 b) := by
  obtain ⟨hl, he⟩ := List.getElem?_eq_some_iff.1 hj
  obtain ⟨g, cap, cur, e, -⟩ := own_blk h (by omega)
  subst e
  have hh : w.ownsRow base 39 1 (.slice (some ⟨g, 0, none⟩) ks.length cap) ks.length (kcs ks) := h
  exact ⟨g, cap, rfl, hl, by rw [hh.cellAt _ (by omega)]; simp [kcs, hj]⟩
theorem own_formN {w : World} {base : Nat} {e : TypeId} {size n : Nat} {v : Value} {xs : List Value} (h : w.ownsRow base e size v n xs) : ∃ A c, v = .slice A n c := by
  rcases h.2 with ⟨e, e0⟩ | ⟨g, cap, cur, e, _⟩
  · exact ⟨none, 0, by rw [e, e0]⟩
  · exact ⟨_, _, e⟩
theorem Blk.grownBy {w w' : World} {b g n c : Nat} {t : TypeId} {cs : Array Value} (h : Blk w b t cs) (hg : w.grownBy w' (Value.slice (some ⟨g, 0, none⟩) n c).ownBlock) (hne : g ≠ b) : Blk w' b t cs :=
  (hg.block b h.lt (fun e => hne (Option.some.inj e).symm)).trans h
set_option maxRecDepth 1000000 in
set_option maxHeartbeats 8000000 in
theorem doTail_in (post : Ending → World → Prop) (base wb n b1 : Nat) (lw tw pv xv : Value) (bl : List Nat) (wc : World) (hblk : Blk wc wb 36 #[lw, tw, pv, xv]) (hl : OwnK base wc lw bl) (hn : bl[n]? = some b1) (hsz : bl.length ≤ 1000) (hpost : post (.returned (.bool true)) wc) (x1 x2 x3 x4 x5 x6 x7 x8 x11 x12 x13 x14 x15 x16 x17 x18 x19 x20 x21 x22 x23 x24 x25 x26 x27 x28 x29 x30 x31 x32 x33 x34 x35 x36 x37 x38 x39 x40 x41 x42 x43 x44 x45 x46 x47 x48 x49 x50 x51 x52 x53 x54 x55 x56 x57 x58 x59 x60 x61 x62 x63 x64 x65 x66 x67 x68 x69 x70 x71 x72 x73 x74 x75 x76 x77 x78 x79 x80 x81 x82 x83 x84 x85 x86 x87 x88 x89 x90 x91 x92 x93 x94 x95 x96 x97 x98 x99 x100 x101 x102 x103 x104 x105 x106 x107 x108 x109 x110 x111 x112 x113 x114 x115 x116 x117 x118 x119 x120 x121 x122 x123 x124 x125 x126 x127 x128 x129 x130 x131 x132 x133 x134 x135 x136 x137 x138 x139 x140 x141 x142 x143 x144 x145 x146 x147 x148 x149 x150 x151 x152 x153 x154 x155 x156 x157 x158 x159 x160 x161 x162 x163 x164 x165 x166 x167 x168 x169 x170 x171 x172 x173 x174 x175 x176 x177 x178 x179 x180 x181 x182 x183 x184 x185 x186 x187 x188 x189 x190 x191 x192 x193 x194 x195 x196 x197 x198 x199 x200 x201 x202 x203 x204 x205 x206 x207 x208 x209 x210 x211 x212 x213 x214 x215 x216 x217 x218 x219 x220 x221 x222 x223 x224 x225 x226 x227 x228 x229 x230 x231 x232 x233 x234 x235 x236 x237 x238 x239 x240 x241 x242 x243 x244 x245 x246 x247 x248 x249 x250 x251 x252 x253 x254 x255 x256 x257 x258 x259 x260 x261 x262 x263 x264 x265 x266 x267 x268 x269 x270 x271 x272 x273 x274 x275 x276 x277 x278 x279 : Value) :
    Code.wp Try.prog doTail (bodyPost Try.prog Try.f14 post) ⟨#[.pointer (some ⟨wb, 0, none⟩), x1, x2, x3, x4, x5, x6, x7, x8, .pointer (some ⟨b1, 0, none⟩), .int .i64 n, x11, x12, x13, x14, x15, x16, x17, x18, x19, x20, x21, x22, x23, x24, x25, x26, x27, x28, x29, x30, x31, x32, x33, x34, x35, x36, x37, x38, x39, x40, x41, x42, x43, x44, x45, x46, x47, x48, x49, x50, x51, x52, x53, x54, x55, x56, x57, x58, x59, x60, x61, x62, x63, x64, x65, x66, x67, x68, x69, x70, x71, x72, x73, x74, x75, x76, x77, x78, x79, x80, x81, x82, x83, x84, x85, x86, x87, x88, x89, x90, x91, x92, x93, x94, x95, x96, x97, x98, x99, x100, x101, x102, x103, x104, x105, x106, x107, x108, x109, x110, x111, x112, x113, x114, x115, x116, x117, x118, x119, x120, x121, x122, x123, x124, x125, x126, x127, x128, x129, x130, x131, x132, x133, x134, x135, x136, x137, x138, x139, x140, x141, x142, x143, x144, x145, x146, x147, x148, x149, x150, x151, x152, x153, x154, x155, x156, x157, x158, x159, x160, x161, x162, x163, x164, x165, x166, x167, x168, x169, x170, x171, x172, x173, x174, x175, x176, x177, x178, x179, x180, x181, x182, x183, x184, x185, x186, x187, x188, x189, x190, x191, x192, x193, x194, x195, x196, x197, x198, x199, x200, x201, x202, x203, x204, x205, x206, x207, x208, x209, x210, x211, x212, x213, x214, x215, x216, x217, x218, x219, x220, x221, x222, x223, x224, x225, x226, x227, x228, x229, x230, x231, x232, x233, x234, x235, x236, x237, x238, x239, x240, x241, x242, x243, x244, x245, x246, x247, x248, x249, x250, x251, x252, x253, x254, x255, x256, x257, x258, x259, x260, x261, x262, x263, x264, x265, x266, x267, x268, x269, x270, x271, x272, x273, x274, x275, x276, x277, x278, x279], []⟩ wc := by
  obtain ⟨g, cap, rfl, hlt, hc⟩ := hl.atK n b1 hn
  have c0 := hblk.cell 0
  simp only [List.getElem?_toArray, List.getElem?_cons_succ, List.getElem?_cons_zero] at c0
  have B1 : (n : Int) < (bl.length : Int) := by omega
  have q := eql_node_same b1 wc
  unfold at0 at q hc
  clear hl hn hblk
  simp only []
  conv => arg 2; whnf
  go_wp2_with fail
  exact hpost

set_option maxRecDepth 1000000 in
set_option maxHeartbeats 8000000 in
theorem doTail_new (post : Ending → World → Prop) (base wb b1 N : Nat) (lw tw pv xv : Value) (bl : List Nat) (wc : World) (c1 : Array Value) (hN : N = bl.length) (hblk : Blk wc wb 36 #[lw, tw, pv, xv]) (hl : OwnK base wc lw bl) (hb1 : Blk wc b1 98 c1) (hne : ∀ y ∈ bl, y ≠ b1) (hbs : ∀ y ∈ bl, ∃ cs, Blk wc y 98 cs) (hsz : bl.length ≤ 1000) (hpos : 0 < bl.length) (hbase : base ≤ wc.heap.size)
    (hpost : ∀ v' w1 w2, Below wc.heap.size wc w1 → w1.grownBy w2 lw.ownBlock → w2.ownsRow base 39 1 v' (bl.length + 1) (kcs bl ++ [at0 b1]) → (v'.ownBlock = lw.ownBlock ∨ v'.ownBlock = some w1.heap.size) → post (.returned (.bool true)) (w2.setCell ⟨wb, 0, none⟩ v')) (x1 x2 x3 x4 x5 x6 x7 x8 x11 x12 x13 x14 x15 x16 x17 x18 x19 x20 x21 x22 x23 x24 x25 x26 x27 x28 x29 x30 x31 x32 x33 x34 x35 x36 x37 x38 x39 x40 x41 x42 x43 x44 x45 x46 x47 x48 x49 x50 x51 x52 x53 x54 x55 x56 x57 x58 x59 x60 x61 x62 x63 x64 x65 x66 x67 x68 x69 x70 x71 x72 x73 x74 x75 x76 x77 x78 x79 x80 x81 x82 x83 x84 x85 x86 x87 x88 x89 x90 x91 x92 x93 x94 x95 x96 x97 x98 x99 x100 x101 x102 x103 x104 x105 x106 x107 x108 x109 x110 x111 x112 x113 x114 x115 x116 x117 x118 x119 x120 x121 x122 x123 x124 x125 x126 x127 x128 x129 x130 x131 x132 x133 x134 x135 x136 x137 x138 x139 x140 x141 x142 x143 x144 x145 x146 x147 x148 x149 x150 x151 x152 x153 x154 x155 x156 x157 x158 x159 x160 x161 x162 x163 x164 x165 x166 x167 x168 x169 x170 x171 x172 x173 x174 x175 x176 x177 x178 x179 x180 x181 x182 x183 x184 x185 x186 x187 x188 x189 x190 x191 x192 x193 x194 x195 x196 x197 x198 x199 x200 x201 x202 x203 x204 x205 x206 x207 x208 x209 x210 x211 x212 x213 x214 x215 x216 x217 x218 x219 x220 x221 x222 x223 x224 x225 x226 x227 x228 x229 x230 x231 x232 x233 x234 x235 x236 x237 x238 x239 x240 x241 x242 x243 x244 x245 x246 x247 x248 x249 x250 x251 x252 x253 x254 x255 x256 x257 x258 x259 x260 x261 x262 x263 x264 x265 x266 x267 x268 x269 x270 x271 x272 x273 x274 x275 x276 x277 x278 x279 : Value) :
    Code.wp Try.prog doTail (bodyPost Try.prog Try.f14 post) ⟨#[.pointer (some ⟨wb, 0, none⟩), x1, x2, x3, x4, x5, x6, x7, x8, .pointer (some ⟨b1, 0, none⟩), .int .i64 N, x11, x12, x13, x14, x15, x16, x17, x18, x19, x20, x21, x22, x23, x24, x25, x26, x27, x28, x29, x30, x31, x32, x33, x34, x35, x36, x37, x38, x39, x40, x41, x42, x43, x44, x45, x46, x47, x48, x49, x50, x51, x52, x53, x54, x55, x56, x57, x58, x59, x60, x61, x62, x63, x64, x65, x66, x67, x68, x69, x70, x71, x72, x73, x74, x75, x76, x77, x78, x79, x80, x81, x82, x83, x84, x85, x86, x87, x88, x89, x90, x91, x92, x93, x94, x95, x96, x97, x98, x99, x100, x101, x102, x103, x104, x105, x106, x107, x108, x109, x110, x111, x112, x113, x114, x115, x116, x117, x118, x119, x120, x121, x122, x123, x124, x125, x126, x127, x128, x129, x130, x131, x132, x133, x134, x135, x136, x137, x138, x139, x140, x141, x142, x143, x144, x145, x146, x147, x148, x149, x150, x151, x152, x153, x154, x155, x156, x157, x158, x159, x160, x161, x162, x163, x164, x165, x166, x167, x168, x169, x170, x171, x172, x173, x174, x175, x176, x177, x178, x179, x180, x181, x182, x183, x184, x185, x186, x187, x188, x189, x190, x191, x192, x193, x194, x195, x196, x197, x198, x199, x200, x201, x202, x203, x204, x205, x206, x207, x208, x209, x210, x211, x212, x213, x214, x215, x216, x217, x218, x219, x220, x221, x222, x223, x224, x225, x226, x227, x228, x229, x230, x231, x232, x233, x234, x235, x236, x237, x238, x239, x240, x241, x242, x243, x244, x245, x246, x247, x248, x249, x250, x251, x252, x253, x254, x255, x256, x257, x258, x259, x260, x261, x262, x263, x264, x265, x266, x267, x268, x269, x270, x271, x272, x273, x274, x275, x276, x277, x278, x279], []⟩ wc := by
  obtain ⟨g, cap, cur, rfl, -⟩ := own_blk hl hpos
  have c0 := hblk.cell 0
  have f0 := hblk.frozen 0
  simp only [List.getElem?_toArray, List.getElem?_cons_succ, List.getElem?_cons_zero] at c0
  have cmp : ∀ j, j < bl.length → ∃ y, wc.cell? ⟨g, j, none⟩ = some (.pointer (some ⟨y, 0, none⟩)) ∧ (binOp .eql 39 (.pointer (some ⟨b1, 0, none⟩)) (.pointer (some ⟨y, 0, none⟩))).run Try.prog wc = .ok (.bool false) wc := fun j hj => by
    obtain ⟨g', cap', e, -, hc⟩ := hl.atK j bl[j] (List.getElem?_eq_getElem hj)
    cases e
    obtain ⟨cs, hy⟩ := hbs bl[j] (List.getElem_mem hj)
    exact ⟨bl[j], hc, eql_node_other wc (fun e => hne _ (List.getElem_mem hj) e.symm) hb1 hy⟩
  have HC := Lib.hid cmp
  have HP := Lib.hid hpost
  obtain ⟨i0, hI, hz0, hz1, hz2⟩ := info_parts info39
  have hrow : wc.ownsRow base 39 1 (.slice (some ⟨g, 0, none⟩) bl.length cap) bl.length (kcs bl) := hl
  obtain ⟨L, hLL⟩ : ∃ L, L = kcs bl := ⟨_, rfl⟩
  rw [← hLL] at hrow HP
  have hb0 : Blk wc wb 36 #[.slice (some ⟨g, 0, none⟩) bl.length cap, tw, pv, xv] := hblk
  have gne : g ≠ wb := fun e => by
    obtain ⟨cs, hc⟩ := own_cells hl g rfl
    rw [e] at hc
    unfold Blk at hb0; rw [hb0] at hc; cases hc
  have hwb := hb0.lt
  have HB := Lib.hid hblk
  clear cmp hpost hl hne hbs hb1 hLL hb0 hblk
  subst hN
  simp only []
  conv => arg 2; whnf
  go_wp2_with fail
  go_loopw [250] (fun i wr => ∃ j : Nat, j ≤ bl.length ∧ i = .int .i64 j ∧ wr = wc) (fun i wr => bl.length - (intOf i).toNat)
  case atStart => exact ⟨0, by omega, rfl, rfl⟩
  case round =>
    obtain ⟨j, hj, rfl, rfl⟩ := hrel
    by_cases hlt : j < bl.length
    · obtain ⟨y, hy, hq⟩ := HC.out j hlt
      have B1 : (j : Int) < (bl.length : Int) := by omega
      have B2 : IntKind.i64.wrap ((j : Int) + 1) = ((j + 1 : Nat) : Int) := by rw [IntWalk.i64_in _ (by omega)]; omega
      go_wp2_with fail
      refine ⟨⟨j + 1, by omega, rfl, trivial⟩, ?_⟩
      simp [intOf]; omega
    · obtain rfl : j = bl.length := by omega
      have hrow1 := hrow.alloc (.cells #[.pointer (some ⟨b1, 0, none⟩)] 39)
      have hBw := (Below.refl _ wr).alloc (Nat.le_refl _) (.cells #[.pointer (some ⟨b1, 0, none⟩)] 39)
      have B3 : IntKind.i64.wrap (((bl.length + 1 : Nat) : Int) - 1) = ((bl.length : Nat) : Int) := by rw [IntWalk.i64_in _ (by omega)]; omega
      have hsz2 : base ≤ (wr.alloc (.cells #[.pointer (some ⟨b1, 0, none⟩)] 39)).heap.size := by have := hBw.size; omega
      go_wp2_with (at_builtin; refine wpList_append_own_at _ rfl _ _ 31 rfl base 39 i0 _ 1 8 Try.underlying31 hI hz0 hz1 hz2 zsz_kids (by decide) (.slice (some ⟨g, 0, none⟩) bl.length cap) bl.length L rfl hrow1 ⟨wr.heap.size, 0, none⟩ 1 1 [.pointer (some ⟨b1, 0, none⟩)] rfl rfl (cell_one_new _ _ _) (by simp [Value.oneCell']) (by unfold maxLen; omega) (by omega) hsz2 ?_; intro v' wa hown' hgrow hnil hat; obtain ⟨A, ca, rfl⟩ : ∃ A ca, v' = .slice A (bl.length + 1) ca := own_formN hown'; have hcw := ((HB.out.below hBw).grownBy hgrow gne).cell 0; have hfw := ((HB.out.below hBw).grownBy hgrow gne).frozen 0; simp only [List.getElem?_toArray, List.getElem?_cons_succ, List.getElem?_cons_zero] at hcw)
      exact HP.out _ _ _ hBw hgrow hown' hat

theorem doTail_any (base p c xb wb m n b1 : Nat) (own : Bool) (Lv lw tw : Value) (ts : List (Option Nat)) (lv : List Bool) (bs : List NB) (ns : List (RN × Value)) (w0 wc : World) (h : Both base p c xb wb Lv lw tw ts lv bs ns m n own b1 wc) (hW : Below base w0 wc) (hlen : bs.length = ns.length) (hn : n < ns.length) (hm : m ≤ 800) (hbase : base ≤ wc.heap.size) (x1 x2 x3 x4 x5 x6 x7 x8 x11 x12 x13 x14 x15 x16 x17 x18 x19 x20 x21 x22 x23 x24 x25 x26 x27 x28 x29 x30 x31 x32 x33 x34 x35 x36 x37 x38 x39 x40 x41 x42 x43 x44 x45 x46 x47 x48 x49 x50 x51 x52 x53 x54 x55 x56 x57 x58 x59 x60 x61 x62 x63 x64 x65 x66 x67 x68 x69 x70 x71 x72 x73 x74 x75 x76 x77 x78 x79 x80 x81 x82 x83 x84 x85 x86 x87 x88 x89 x90 x91 x92 x93 x94 x95 x96 x97 x98 x99 x100 x101 x102 x103 x104 x105 x106 x107 x108 x109 x110 x111 x112 x113 x114 x115 x116 x117 x118 x119 x120 x121 x122 x123 x124 x125 x126 x127 x128 x129 x130 x131 x132 x133 x134 x135 x136 x137 x138 x139 x140 x141 x142 x143 x144 x145 x146 x147 x148 x149 x150 x151 x152 x153 x154 x155 x156 x157 x158 x159 x160 x161 x162 x163 x164 x165 x166 x167 x168 x169 x170 x171 x172 x173 x174 x175 x176 x177 x178 x179 x180 x181 x182 x183 x184 x185 x186 x187 x188 x189 x190 x191 x192 x193 x194 x195 x196 x197 x198 x199 x200 x201 x202 x203 x204 x205 x206 x207 x208 x209 x210 x211 x212 x213 x214 x215 x216 x217 x218 x219 x220 x221 x222 x223 x224 x225 x226 x227 x228 x229 x230 x231 x232 x233 x234 x235 x236 x237 x238 x239 x240 x241 x242 x243 x244 x245 x246 x247 x248 x249 x250 x251 x252 x253 x254 x255 x256 x257 x258 x259 x260 x261 x262 x263 x264 x265 x266 x267 x268 x269 x270 x271 x272 x273 x274 x275 x276 x277 x278 x279 : Value) :
    Code.wp Try.prog doTail (bodyPost Try.prog Try.f14 (DoPost base p c xb wb tw ts m w0)) ⟨#[.pointer (some ⟨wb, 0, none⟩), x1, x2, x3, x4, x5, x6, x7, x8, .pointer (some ⟨b1, 0, none⟩), .int .i64 (atOf ns own n : Nat), x11, x12, x13, x14, x15, x16, x17, x18, x19, x20, x21, x22, x23, x24, x25, x26, x27, x28, x29, x30, x31, x32, x33, x34, x35, x36, x37, x38, x39, x40, x41, x42, x43, x44, x45, x46, x47, x48, x49, x50, x51, x52, x53, x54, x55, x56, x57, x58, x59, x60, x61, x62, x63, x64, x65, x66, x67, x68, x69, x70, x71, x72, x73, x74, x75, x76, x77, x78, x79, x80, x81, x82, x83, x84, x85, x86, x87, x88, x89, x90, x91, x92, x93, x94, x95, x96, x97, x98, x99, x100, x101, x102, x103, x104, x105, x106, x107, x108, x109, x110, x111, x112, x113, x114, x115, x116, x117, x118, x119, x120, x121, x122, x123, x124, x125, x126, x127, x128, x129, x130, x131, x132, x133, x134, x135, x136, x137, x138, x139, x140, x141, x142, x143, x144, x145, x146, x147, x148, x149, x150, x151, x152, x153, x154, x155, x156, x157, x158, x159, x160, x161, x162, x163, x164, x165, x166, x167, x168, x169, x170, x171, x172, x173, x174, x175, x176, x177, x178, x179, x180, x181, x182, x183, x184, x185, x186, x187, x188, x189, x190, x191, x192, x193, x194, x195, x196, x197, x198, x199, x200, x201, x202, x203, x204, x205, x206, x207, x208, x209, x210, x211, x212, x213, x214, x215, x216, x217, x218, x219, x220, x221, x222, x223, x224, x225, x226, x227, x228, x229, x230, x231, x232, x233, x234, x235, x236, x237, x238, x239, x240, x241, x242, x243, x244, x245, x246, x247, x248, x249, x250, x251, x252, x253, x254, x255, x256, x257, x258, x259, x260, x261, x262, x263, x264, x265, x266, x267, x268, x269, x270, x271, x272, x273, x274, x275, x276, x277, x278, x279], []⟩ wc := by
  obtain ⟨nb', r', vl', Nv', rfl, hC, hL, hF, h1, h2⟩ := h
  have hl9 : ns.length ≤ 900 := by have := hF.1; rw [chgL_len] at this; omega
  have hbl : (bs.map (·.b)).length ≤ 1000 := by rw [List.length_map]; omega
  cases own with
  | true =>
    refine doTail_in _ base wb n nb'.b lw tw _ _ _ wc hL.blk hL.l (h1 rfl) hbl ?_ x1 x2 x3 x4 x5 x6 x7 x8 x11 x12 x13 x14 x15 x16 x17 x18 x19 x20 x21 x22 x23 x24 x25 x26 x27 x28 x29 x30 x31 x32 x33 x34 x35 x36 x37 x38 x39 x40 x41 x42 x43 x44 x45 x46 x47 x48 x49 x50 x51 x52 x53 x54 x55 x56 x57 x58 x59 x60 x61 x62 x63 x64 x65 x66 x67 x68 x69 x70 x71 x72 x73 x74 x75 x76 x77 x78 x79 x80 x81 x82 x83 x84 x85 x86 x87 x88 x89 x90 x91 x92 x93 x94 x95 x96 x97 x98 x99 x100 x101 x102 x103 x104 x105 x106 x107 x108 x109 x110 x111 x112 x113 x114 x115 x116 x117 x118 x119 x120 x121 x122 x123 x124 x125 x126 x127 x128 x129 x130 x131 x132 x133 x134 x135 x136 x137 x138 x139 x140 x141 x142 x143 x144 x145 x146 x147 x148 x149 x150 x151 x152 x153 x154 x155 x156 x157 x158 x159 x160 x161 x162 x163 x164 x165 x166 x167 x168 x169 x170 x171 x172 x173 x174 x175 x176 x177 x178 x179 x180 x181 x182 x183 x184 x185 x186 x187 x188 x189 x190 x191 x192 x193 x194 x195 x196 x197 x198 x199 x200 x201 x202 x203 x204 x205 x206 x207 x208 x209 x210 x211 x212 x213 x214 x215 x216 x217 x218 x219 x220 x221 x222 x223 x224 x225 x226 x227 x228 x229 x230 x231 x232 x233 x234 x235 x236 x237 x238 x239 x240 x241 x242 x243 x244 x245 x246 x247 x248 x249 x250 x251 x252 x253 x254 x255 x256 x257 x258 x259 x260 x261 x262 x263 x264 x265 x266 x267 x268 x269 x270 x271 x272 x273 x274 x275 x276 x277 x278 x279
    refine ⟨rfl, lw, Nv', Lv, lv, _, _, hC, ?_, hF, hW⟩
    have e : (chgL bs true n nb').map (·.b) = bs.map (·.b) := by
      unfold chgL
      rw [if_pos rfl, List.map_set]
      have := chgL_same (h1 rfl)
      unfold chgL at this
      rw [if_pos rfl] at this
      exact this
    rw [e]; exact hL
  | false =>
    have hat : ((chgL bs false n nb'))[bs.length]? = some nb' := by simp [chgL]
    have hat2 : ((chgL ns false n (r', vl')))[bs.length]? = some (r', vl') := by simp [chgL, hlen]
    obtain ⟨cs, hbk⟩ := (hC.nodes _ _ _ hat hat2).blk
    refine doTail_new _ base wb nb'.b ns.length lw tw _ _ (bs.map (·.b)) wc cs (by rw [List.length_map, hlen]) hL.blk hL.l hbk (h2 rfl) (fun y hy => ?_) hbl (by rw [List.length_map]; omega) hbase (fun v' w1 w2 hB hg ho hat' => ?_) x1 x2 x3 x4 x5 x6 x7 x8 x11 x12 x13 x14 x15 x16 x17 x18 x19 x20 x21 x22 x23 x24 x25 x26 x27 x28 x29 x30 x31 x32 x33 x34 x35 x36 x37 x38 x39 x40 x41 x42 x43 x44 x45 x46 x47 x48 x49 x50 x51 x52 x53 x54 x55 x56 x57 x58 x59 x60 x61 x62 x63 x64 x65 x66 x67 x68 x69 x70 x71 x72 x73 x74 x75 x76 x77 x78 x79 x80 x81 x82 x83 x84 x85 x86 x87 x88 x89 x90 x91 x92 x93 x94 x95 x96 x97 x98 x99 x100 x101 x102 x103 x104 x105 x106 x107 x108 x109 x110 x111 x112 x113 x114 x115 x116 x117 x118 x119 x120 x121 x122 x123 x124 x125 x126 x127 x128 x129 x130 x131 x132 x133 x134 x135 x136 x137 x138 x139 x140 x141 x142 x143 x144 x145 x146 x147 x148 x149 x150 x151 x152 x153 x154 x155 x156 x157 x158 x159 x160 x161 x162 x163 x164 x165 x166 x167 x168 x169 x170 x171 x172 x173 x174 x175 x176 x177 x178 x179 x180 x181 x182 x183 x184 x185 x186 x187 x188 x189 x190 x191 x192 x193 x194 x195 x196 x197 x198 x199 x200 x201 x202 x203 x204 x205 x206 x207 x208 x209 x210 x211 x212 x213 x214 x215 x216 x217 x218 x219 x220 x221 x222 x223 x224 x225 x226 x227 x228 x229 x230 x231 x232 x233 x234 x235 x236 x237 x238 x239 x240 x241 x242 x243 x244 x245 x246 x247 x248 x249 x250 x251 x252 x253 x254 x255 x256 x257 x258 x259 x260 x261 x262 x263 x264 x265 x266 x267 x268 x269 x270 x271 x272 x273 x274 x275 x276 x277 x278 x279
    · obtain ⟨m', hm', rfl⟩ := List.mem_map.1 hy
      obtain ⟨j, hj⟩ := List.getElem?_of_mem hm'
      have hj' := (List.getElem?_eq_some_iff.1 hj).1
      have e1 : (chgL bs false n nb')[j]? = some m' := by
        simp only [chgL, Bool.false_eq_true, if_false]
        rw [List.getElem?_append_left hj']; exact hj
      have e2 : (chgL ns false n (r', vl'))[j]? = some ns[j] := by
        simp only [chgL, Bool.false_eq_true, if_false]
        rw [List.getElem?_append_left (by omega)]; exact List.getElem?_eq_getElem (by omega)
      exact (hC.nodes j _ _ e1 e2).blk
    · obtain ⟨g1, g2, g3⟩ := tail_app hC hL hB hg nb'.b ho hat' hbase
      refine ⟨rfl, v', Nv', Lv, lv, _, _, g1, ?_, hF, hW.trans g3⟩
      have e : (chgL bs false n nb').map (·.b) = bs.map (·.b) ++ [nb'.b] := by simp [chgL]
      rw [e]; exact g2

end Go.Proofs.Ytgldgdpgbfejmaa
