/- ChampOrders, part by part. -/
import Derived.Test.YtfmbikmpobieoaaGreatMFb
import Derived.BigQuiet
import Derived.Deep.RegionHeld3
namespace Go.Proofs.YtfmbikmpobieoaaGreat.champOrders
open Go.ChangeShapes Go.WideShapes Go.RowKit Go.Lib
set_option linter.unusedVariables false
set_option linter.unusedSimpArgs false
set_option maxRecDepth 100000
attribute [local irreducible] cnt
theorem keep5 {w w' : World} {N2 N3 : Nat} {a b c d e : Value} (h : w.cell? ⟨N2, 0, none⟩ = some a ∧ w.cell? ⟨N2, 1, none⟩ = some b ∧ w.cell? ⟨N2, 2, none⟩ = some c ∧ w.cell? ⟨N3, 0, none⟩ = some d ∧ w.cell? ⟨N3, 1, none⟩ = some e) (hb : Below w.heap.size w w') :
    w'.cell? ⟨N2, 0, none⟩ = some a ∧ w'.cell? ⟨N2, 1, none⟩ = some b ∧ w'.cell? ⟨N2, 2, none⟩ = some c ∧ w'.cell? ⟨N3, 0, none⟩ = some d ∧ w'.cell? ⟨N3, 1, none⟩ = some e := by
  obtain ⟨h1, h2, h3, h4, h5⟩ := h
  exact ⟨(hb.cell (World.block_lt_of_cell? w _ h1)).trans h1, (hb.cell (World.block_lt_of_cell? w _ h2)).trans h2, (hb.cell (World.block_lt_of_cell? w _ h3)).trans h3, (hb.cell (World.block_lt_of_cell? w _ h4)).trans h4, (hb.cell (World.block_lt_of_cell? w _ h5)).trans h5⟩
theorem field0 (k u : ByteArray) (w : World) : (Instr.field 34 (.agg #[.string k, .string u]) 0).run Tryz.prog w = .ok (.string k) w := by
  kernel_rfl
theorem argp_at {w wr : World} {a : Option Addr} {len cap : Nat} {ps : List Pr} (h : ArgP w a len cap ps) (hB : Below w.heap.size w wr) (j : Nat) (hj : j < len) :
    ∃ x : Addr, a = some x ∧ ps.length = len ∧ wr.cell? (x.add (j * 2)) = some (.string (pat ps j).1) ∧ wr.cell? ⟨(x.add (j * 2)).block, (x.add (j * 2)).off + 1, none⟩ = some (.string (pat ps j).2) := by
  rcases h with ⟨_, h, _⟩ | ⟨x, rfl, hl, hm, hz, hcell⟩
  · omega
  · have hp := pat_get (xs := ps) (p := j) (by omega)
    have hf := flat_get ps j _ hp
    have c0 := hcell _ _ hf.1
    have c1 := hcell _ _ hf.2
    exact ⟨x, rfl, hl, (hB.cell (World.block_lt_of_cell? w _ c0)).trans c0, by rw [show (⟨(x.add (j * 2)).block, (x.add (j * 2)).off + 1, none⟩ : Addr) = (x.add (j * 2)).add 1 from rfl, Addr.add_add]; exact (hB.cell (World.block_lt_of_cell? w _ c1)).trans c1⟩
/-- the keys that come and go -/
def gks (ps : List Pr) : List ByteArray := (ps.take 20).map fun q => (few40 q).1
theorem gks_len (ps : List Pr) : (gks ps).length ≤ 20 := by unfold gks; rw [List.length_map, List.length_take]; omega
theorem gks_at {ps : List Pr} {j : Nat} (h : j < 20) (hl : j < ps.length) : (gks ps)[j]? = some (few40 (pat ps j)).1 := by
  have := pat_get (xs := ps) (p := j) hl
  unfold gks
  rw [List.getElem?_map, List.getElem?_take, if_pos h, this]; rfl
theorem gks_drop {ps : List Pr} {j : Nat} {k : ByteArray} (h : (gks ps)[j]? = some k) {x : ByteArray} (hx : x ∈ (gks ps).drop j) : x = k ∨ x ∈ (gks ps).drop (j + 1) := by
  obtain ⟨hl, he⟩ := List.getElem?_eq_some_iff.1 h
  rw [List.drop_eq_getElem_cons hl] at hx
  rcases List.mem_cons.1 hx with hx | hx
  · exact .inl (hx.trans he)
  · exact .inr hx
theorem isK_mem {S : List Pr} (k : ByteArray) (hr : RisesL S) : isK S k = true ↔ ∃ s ∈ S, s.1 = k := by
  have h := getK_isK k hr
  constructor
  · intro hk
    rw [if_pos hk] at h
    have := getK_mem h
    exact ⟨_, this, rfl⟩
  · rintro ⟨s, hs, rfl⟩
    by_cases hk : isK S s.1 = true
    · exact hk
    · rw [if_neg hk] at h
      exact absurd rfl (getK_none.1 h s hs)
noncomputable def ord43 : Code := (Tryz.f6.body.bind (fromRegion 43)).getD .skip
set_option maxHeartbeats 8000000 in
theorem ord43_any (post : Ending → World → Prop) (k0 k1 m : Int) (w0 w : World) (h0 : U64 k0) (h1 : U64 k1) (N4 bn bm : Nat) (S : List Pr) (A9 : Option Addr) (c9 : Nat)
    (hB0 : Below w0.heap.size w0 w) (hTn : TP k0 k1 m w0.heap.size w bn S) (hR9 : Rd w A9 S) (hH : Blk w N4 26 #[.int .u64 k0, .int .u64 k1, .int .u64 m]) (hrS : RisesL S) (hlS : S.length ≤ 30) (hzS : ∀ x ∈ S, x.1.size ≤ 40) (hpost : ∀ w', Below w0.heap.size w0 w' → post (.returned (.bool true)) w') (hTm : TP k0 k1 m w0.heap.size w bm S) (x0 x1 x2 x3 x5 x6 x7 x8 x10 x11 x14 x15 x16 x17 x18 x19 x20 x21 x22 x23 x24 x25 x26 x27 x28 x29 x30 x31 x32 x33 x34 x35 x36 x37 x38 x39 x40 x41 x42 x43 x44 x45 x46 x47 x48 x49 x50 x51 x52 x53 x54 x55 x56 x57 x58 x59 x60 x61 x62 x63 x64 x65 x66 x67 x68 x69 x70 x71 x72 x73 x74 x75 x76 x77 x78 x79 x80 x81 x82 x83 x84 x85 x86 x87 x88 x89 x90 x91 x92 x93 x94 x95 x96 x97 x98 x99 x100 x101 x102 x103 x104 x105 x106 x107 x108 x109 x110 x111 x112 x113 x114 x115 x116 x117 x118 x119 x120 x121 x122 x123 x124 x125 x126 x127 x128 x129 x130 x131 x132 x133 x134 x135 x136 x137 x138 x139 x140 x141 x142 x143 x144 x145 x146 x147 x148 x149 x150 x151 x152 x153 x154 x155 x156 x157 x158 x159 x160 x161 x162 x163 x164 x165 x166 x167 x168 x169 x170 x171 x172 x173 x174 x175 x176 x177 x178 x179 x180 x181 x182 x183 x184 x185 x186 x187 : Value) :
    Code.wp Tryz.prog ord43 (bodyPost Tryz.prog Tryz.f6 post) ⟨#[x0, x1, x2, x3, .pointer (some ⟨N4, 0, none⟩), x5, x6, x7, x8, .slice A9 S.length c9, x10, x11, .pointer (some ⟨bn, 0, none⟩), .pointer (some ⟨bm, 0, none⟩), x14, x15, x16, x17, x18, x19, x20, x21, x22, x23, x24, x25, x26, x27, x28, x29, x30, x31, x32, x33, x34, x35, x36, x37, x38, x39, x40, x41, x42, x43, x44, x45, x46, x47, x48, x49, x50, x51, x52, x53, x54, x55, x56, x57, x58, x59, x60, x61, x62, x63, x64, x65, x66, x67, x68, x69, x70, x71, x72, x73, x74, x75, x76, x77, x78, x79, x80, x81, x82, x83, x84, x85, x86, x87, x88, x89, x90, x91, x92, x93, x94, x95, x96, x97, x98, x99, x100, x101, x102, x103, x104, x105, x106, x107, x108, x109, x110, x111, x112, x113, x114, x115, x116, x117, x118, x119, x120, x121, x122, x123, x124, x125, x126, x127, x128, x129, x130, x131, x132, x133, x134, x135, x136, x137, x138, x139, x140, x141, x142, x143, x144, x145, x146, x147, x148, x149, x150, x151, x152, x153, x154, x155, x156, x157, x158, x159, x160, x161, x162, x163, x164, x165, x166, x167, x168, x169, x170, x171, x172, x173, x174, x175, x176, x177, x178, x179, x180, x181, x182, x183, x184, x185, x186, x187], []⟩ w := by
  obtain ⟨i45, hi45, hy450, hy451, hy452⟩ := info_parts info45
  have HP := Lib.hid hpost
  have HR := Lib.hid hR9
  have HB0 := Lib.hid hB0
  have HTn := Lib.hid hTn
  have HTm := Lib.hid hTm
  have HH := Lib.hid hH
  clear hpost hR9 hB0 hTn hTm hH
  simp only []
  conv => arg 2; whnf
  go_wp2_with fail
  go_loopw [27, 169] (fun v27 vi wr => ∃ j : Nat, j ≤ S.length ∧ vi = .int .i64 j ∧ OwnR w.heap.size wr v27 (S.take j) ∧ Below w.heap.size w wr) (fun v27 vi wr => S.length - (intOf vi).toNat)
  case atStart => exact ⟨0, by omega, rfl, OwnR.nil _ _, Below.refl _ _⟩
  case round =>
    obtain ⟨j, hj, rfl, hO, hB⟩ := hrel
    by_cases hlt : j < S.length
    · obtain ⟨g, off, rfl, c0, c1⟩ := (HR.out.below hB) j S[j] (List.getElem?_eq_getElem hlt)
      have L1 : (j : Int) < (S.length : Int) := by omega
      have L2 : IntKind.i64.wrap ((j : Int) + 1) = ((j + 1 : Nat) : Int) := by rw [IntWalk.i64_in _ (by omega)]; omega
      have HTk := Lib.hid (List.take_succ_eq_append_getElem hlt)
      have hlt7 : (S.take j).length ≤ 700 := by rw [List.length_take]; omega
      generalize S[j] = q at *
      go_upto_region 47 with (fail)
      have hBl := (Below.refl _ wr).alloc (Nat.le_refl _) (.cells #[.string q.1, .string q.2] 34)
      have hP := Blk.new wr 34 #[.string q.1, .string q.2]
      have hO := hO.below' hBl
      have hB := hB.trans (hBl.mono hB.size)
      clear hBl c0 c1
      generalize wr.alloc (.cells #[.string q.1, .string q.2] 34) = W1 at *
      generalize wr.heap.size = NP at *
      have p0 : W1.cell? ⟨NP, 0, none⟩ = some (.string q.1) := hP.cell 0
      have p1 : W1.cell? ⟨NP, 1, none⟩ = some (.string q.2) := hP.cell 1
      have hBc := (Below.refl _ W1).alloc (Nat.le_refl _) (.cells #[.string q.1, .string q.2] 45)
      have hO2 := hO.below' hBc
      have hB2 := hB.trans (hBc.mono hB.size)
      obtain ⟨R, hRe⟩ : ∃ R, R = S.take j := ⟨_, rfl⟩
      rw [← hRe] at hO2 hlt7 HTk
      have hrow : (W1.alloc (.cells #[.string q.1, .string q.2] 45)).ownsRow w.heap.size 45 2 u27 R.length (flat R) := hO2
      have hnb : (W1.alloc (.cells #[.string q.1, .string q.2] 45)).heap[W1.heap.size]? = some (.cells #[.string q.1, .string q.2] 45 (0, 0)) := heap_alloc_new W1 _
      have hsz := hB2.size
      have HB2 := Lib.hid hB2
      clear hO hO2 hB hBc hB2 hRe hP
      go_wp2_with (at_builtin; refine wpList_append_own_at _ rfl _ _ 32 rfl w.heap.size 45 i45 _ 2 32 Tryz.underlying32 hi45 hy450 hy451 hy452 zsz_pair (by decide) _ _ _ rfl hrow ⟨W1.heap.size, 0, none⟩ 1 1 [.string q.1, .string q.2] rfl rfl (World.news_of_block hnb) (by simp [Value.oneCell']) (by unfold maxLen; omega) (by omega) hsz ?_; intro v' wa hown' hgrow hnil hat)
      refine ⟨⟨j + 1, by omega, by go_num, ?_, HB2.out.grown hgrow hsz (own_ge hrow)⟩, by simp [intOf]; omega⟩
      rw [HTk.out]
      exact OwnR.snoc hown'
    · obtain rfl : j = S.length := by omega
      have G : ¬ ((S.length : Int) < (S.length : Int)) := by omega
      rw [List.take_length] at hO
      obtain ⟨A7, c7, rfl, hR7⟩ := hO.rd
      have hH := HH.out.below hB
      have hBw := HB0.out.trans (hB.mono HB0.out.size)
      have hTn := HTn.out.below hB
      have kt := trie_plain (A := A7) (c := c7) hTn h0 h1 hR7 (by omega) (fun x hx => Nat.le_trans (hzS x hx) (by omega))
      have hTm := HTm.out.below hB
      have s0 : wr.cell? ⟨N4, 0, none⟩ = some (.int .u64 k0) := hH.cell 0
      have s1 : wr.cell? ⟨N4, 1, none⟩ = some (.int .u64 k1) := hH.cell 1
      have s2 : wr.cell? ⟨N4, 2, none⟩ = some (.int .u64 m) := hH.cell 2

      clear hO HTn HTm HH HB0 HR
      go_wp2_with fail
      refine kt.mono ?_
      rintro e w1 ⟨rfl, hB1⟩
      have hH := hH.below hB1
      have hBw := hBw.trans (hB1.mono hBw.size)
      have kt2 := trie_plain (A := A7) (c := c7) (hTm.below hB1) h0 h1 (hR7.below hB1) (by omega) (fun x hx => Nat.le_trans (hzS x hx) (by omega))
      clear kt s0 s1 s2 hB1 hB hTn hTm
      have s0 : w1.cell? ⟨N4, 0, none⟩ = some (.int .u64 k0) := hH.cell 0
      have s1 : w1.cell? ⟨N4, 1, none⟩ = some (.int .u64 k1) := hH.cell 1
      have s2 : w1.cell? ⟨N4, 2, none⟩ = some (.int .u64 m) := hH.cell 2

      go_wp2_with fail
      refine kt2.mono ?_
      rintro e w2 ⟨rfl, hB2⟩
      go_wp2_with fail
      exact HP.out _ (hBw.trans (hB2.mono hBw.size))
end Go.Proofs.YtfmbikmpobieoaaGreat.champOrders
/- ChampOrders, part by part. -/
namespace Go.Proofs.YtfmbikmpobieoaaGreat.champOrders
open Go.ChangeShapes Go.WideShapes Go.RowKit Go.Lib
set_option linter.unusedVariables false
set_option linter.unusedSimpArgs false
set_option maxRecDepth 100000
attribute [local irreducible] cnt
noncomputable def ord36 : Code := (Tryz.f6.body.bind (fromRegion 36)).getD .skip
set_option maxHeartbeats 16000000 in
theorem ord36_any (post : Ending → World → Prop) (k0 k1 m : Int) (w0 w : World) (h0 : U64 k0) (h1 : U64 k1) (N4 bn bm : Nat) (S : List Pr) (A9 : Option Addr) (c9 : Nat)
    (hB0 : Below w0.heap.size w0 w) (hTn : TP k0 k1 m w0.heap.size w bn S) (hR9 : Rd w A9 S) (hH : Blk w N4 26 #[.int .u64 k0, .int .u64 k1, .int .u64 m]) (hrS : RisesL S) (hlS : S.length ≤ 30) (hzS : ∀ x ∈ S, x.1.size ≤ 40) (hpost : ∀ w', Below w0.heap.size w0 w' → post (.returned (.bool true)) w') (a3 : Option Addr) (len3 cap3 : Nat) (ps3 : List Pr) (hp3 : ArgP w0 a3 len3 cap3 ps3) (M0 : List Pr) (hTm : TP k0 k1 m w0.heap.size w bm M0) (hrM : RisesL M0) (hlM : M0.length ≤ 60) (hM0 : ∀ p ∈ M0, p ∈ S ∨ p.1 ∈ gks ps3) (hS0 : ∀ p ∈ S, p ∈ M0) (x0 x1 x2 x5 x6 x7 x8 x10 x11 x14 x15 x16 x17 x18 x19 x20 x21 x22 x23 x24 x25 x26 x27 x28 x29 x30 x31 x32 x33 x34 x35 x36 x37 x38 x39 x40 x41 x42 x43 x44 x45 x46 x47 x48 x49 x50 x51 x52 x53 x54 x55 x56 x57 x58 x59 x60 x61 x62 x63 x64 x65 x66 x67 x68 x69 x70 x71 x72 x73 x74 x75 x76 x77 x78 x79 x80 x81 x82 x83 x84 x85 x86 x87 x88 x89 x90 x91 x92 x93 x94 x95 x96 x97 x98 x99 x100 x101 x102 x103 x104 x105 x106 x107 x108 x109 x110 x111 x112 x113 x114 x115 x116 x117 x118 x119 x120 x121 x122 x123 x124 x125 x126 x127 x128 x129 x130 x131 x132 x133 x134 x135 x136 x137 x138 x139 x140 x141 x142 x143 x144 x145 x146 x147 x148 x149 x150 x151 x152 x153 x154 x155 x156 x157 x158 x159 x160 x161 x162 x163 x164 x165 x166 x167 x168 x169 x170 x171 x172 x173 x174 x175 x176 x177 x178 x179 x180 x181 x182 x183 x184 x185 x186 x187 : Value) :
    Code.wp Tryz.prog ord36 (bodyPost Tryz.prog Tryz.f6 post) ⟨#[x0, x1, x2, .slice a3 len3 cap3, .pointer (some ⟨N4, 0, none⟩), x5, x6, x7, x8, .slice A9 S.length c9, x10, x11, .pointer (some ⟨bn, 0, none⟩), .pointer (some ⟨bm, 0, none⟩), x14, x15, x16, x17, x18, x19, x20, x21, x22, x23, x24, x25, x26, x27, x28, x29, x30, x31, x32, x33, x34, x35, x36, x37, x38, x39, x40, x41, x42, x43, x44, x45, x46, x47, x48, x49, x50, x51, x52, x53, x54, x55, x56, x57, x58, x59, x60, x61, x62, x63, x64, x65, x66, x67, x68, x69, x70, x71, x72, x73, x74, x75, x76, x77, x78, x79, x80, x81, x82, x83, x84, x85, x86, x87, x88, x89, x90, x91, x92, x93, x94, x95, x96, x97, x98, x99, x100, x101, x102, x103, x104, x105, x106, x107, x108, x109, x110, x111, x112, x113, x114, x115, x116, x117, x118, x119, x120, x121, x122, x123, x124, x125, x126, x127, x128, x129, x130, x131, x132, x133, x134, x135, x136, x137, x138, x139, x140, x141, x142, x143, x144, x145, x146, x147, x148, x149, x150, x151, x152, x153, x154, x155, x156, x157, x158, x159, x160, x161, x162, x163, x164, x165, x166, x167, x168, x169, x170, x171, x172, x173, x174, x175, x176, x177, x178, x179, x180, x181, x182, x183, x184, x185, x186, x187], []⟩ w := by
  have HF := Lib.hid (fun wr bm hB hTn hR9 hH hTm => ord43_any post k0 k1 m w0 wr h0 h1 N4 bn bm S A9 c9 hB hTn hR9 hH hrS hlS hzS hpost hTm)
  have hl3 := hp3.len_le
  have HA3 := Lib.hid hp3
  clear hpost hp3
  simp only []
  conv => arg 2; whnf
  go_wp2_with fail
  go_loopw [13, 138] (fun v13 vi wr => ∃ (j bq : Nat) (M : List Pr), j ≤ len3 ∧ vi = .int .i64 j ∧ v13 = .pointer (some ⟨bq, 0, none⟩) ∧ RisesL M ∧ M.length ≤ 60 ∧ Hid (∀ p ∈ M, p ∈ S ∨ p.1 ∈ (gks ps3).drop j) ∧ Hid (∀ p ∈ S, p ∈ M) ∧ TP k0 k1 m w0.heap.size wr bq M ∧ TP k0 k1 m w0.heap.size wr bn S ∧ Rd wr A9 S ∧ Blk wr N4 26 #[.int .u64 k0, .int .u64 k1, .int .u64 m] ∧ Below w0.heap.size w0 wr) (fun v13 vi wr => len3 - (intOf vi).toNat)
  case atStart => exact ⟨0, bm, M0, by omega, rfl, rfl, hrM, hlM, Lib.hid (by simpa using hM0), Lib.hid hS0, hTm, hTn, hR9, hH, hB0⟩
  case round =>
    clear hTm hTn hR9 hH hB0 hM0 hS0 hrM hlM
    obtain ⟨j, bq, M, hj, rfl, rfl, hrM, hlM, HM, HSM, hTm, hTn, hR9, hH, hB⟩ := hrel
    by_cases hlt : j < len3
    · obtain ⟨x, rfl, hpl, c0, c1⟩ := argp_at HA3.out hB j hlt
      have L1 : (j : Int) < (len3 : Int) := by omega
      have L2 : IntKind.i64.wrap ((j : Int) + 1) = ((j + 1 : Nat) : Int) := by rw [IntWalk.i64_in _ (by omega)]; omega
      have HGA := Lib.hid (fun h20 => gks_at (ps := ps3) (j := j) h20 (by omega))
      generalize pat ps3 j = q at *
      go_upto_region 39 with (fail)
      have hBl := (Below.refl _ wr).alloc (Nat.le_refl _) (.cells #[.string q.1, .string q.2] 34)
      have hP := Blk.new wr 34 #[.string q.1, .string q.2]
      have hB := hB.trans (hBl.mono hB.size)
      have hTn := hTn.below hBl
      have hTm := hTm.below hBl
      have hR9 := hR9.below hBl
      have hH := hH.below hBl

      clear hBl c0 c1 hpl
      generalize wr.alloc (.cells #[.string q.1, .string q.2] 34) = W1 at *
      generalize wr.heap.size = NP at *
      have hp1 : (few40 q).1.size ≤ 40 := cut40_size q.1
      have kfew := fun w' => few_any q w'
      generalize few40 q = p at *
      have hp1000 : p.1.size ≤ 1000 := by omega
      have hfl := fun w => field0 p.1 p.2 w
      have p0 : W1.cell? ⟨NP, 0, none⟩ = some (.string q.1) := hP.cell 0
      have p1 : W1.cell? ⟨NP, 1, none⟩ = some (.string q.2) := hP.cell 1
      go_wp2_with fail
      refine (kfew W1).mono ?_
      rintro e w2 ⟨rfl, hB2⟩
      have hB := hB.trans (hB2.mono hB.size)
      have hTn := hTn.below hB2
      have hTm := hTm.below hB2
      have hR9 := hR9.below hB2
      have hH := hH.below hB2
      have hP := hP.below hB2

      have kf := find_any A9 c9 S p.1 w2 hR9 (by omega) hrS
      clear p0 p1 hB2
      go_wp2_with fail
      refine kf.mono ?_
      rintro e w3 ⟨rfl, hB3⟩
      have hB := hB.trans (hB3.mono hB.size)
      have hTn := hTn.below hB3
      have hTm := hTm.below hB3
      have hR9 := hR9.below hB3
      have hH := hH.below hB3
      have hP := hP.below hB3

      clear kf hB3
      generalize posK S p.1 = po at *
      have hik := isK_mem p.1 hrS
      by_cases h20 : j < 20
      · have G : (j : Int) < 20 := by omega
        have HG := Lib.hid (HGA.out h20)
        cases hkk : isK S p.1 with
        | true =>
          rw [hkk] at hik
          obtain ⟨s, hs, hsk⟩ := hik.1 rfl
          clear hik hP kfew hfl
          go_wp2_with fail
          refine ⟨⟨j + 1, bq, M, by omega, by go_num, rfl, hrM, hlM, Lib.hid (fun z hz => ?_), HSM, hTm, hTn, hR9, hH, hB⟩, by simp [intOf]; omega⟩
          rcases HM.out z hz with h | h
          · exact .inl h
          · rcases gks_drop HG.out h with h | h
            · exact .inl (by rw [rises_key hrM hz (HSM.out s hs) (h.trans hsk.symm)]; exact hs)
            · exact .inr h
        | false =>
          rw [hkk] at hik
          have hno : ∀ s ∈ S, s.1 ≠ p.1 := fun s hs e => by have := hik.2 ⟨s, hs, e⟩; simp at this
          have kd := fun w' (hw : w0.heap.size ≤ w'.heap.size) (hT : TP k0 k1 m w0.heap.size w' bq M) => drop_plain (k := p.1) h0 h1 hp1000 hw hT hrM (by omega)
          clear hik
          have Hno := Lib.hid hno
          clear hno
          go_upto_region 41 with (fail)
          have hS0 : (fun w' : World => w'.cell? ⟨N4, 0, none⟩ = some (.int .u64 k0) ∧ w'.cell? ⟨N4, 1, none⟩ = some (.int .u64 k1) ∧ w'.cell? ⟨N4, 2, none⟩ = some (.int .u64 m) ∧ w'.cell? ⟨NP, 0, none⟩ = some (.string q.1) ∧ w'.cell? ⟨NP, 1, none⟩ = some (.string q.2)) w3.drew := ⟨hH.cell 0, hH.cell 1, hH.cell 2, hP.cell 0, hP.cell 1⟩
          have hdr : Below w3.heap.size w3 w3.drew := (Below.refl _ w3).drew
          have hB := hB.trans (hdr.mono hB.size)
          have hTn := hTn.below hdr
          have hTm := hTm.below hdr
          have hR9 := hR9.below hdr
          have hH := hH.below hdr
          have hP := hP.below hdr

          clear hdr
          refine wp_region_held_drew (S := fun w' : World => w'.cell? ⟨N4, 0, none⟩ = some (.int .u64 k0) ∧ w'.cell? ⟨N4, 1, none⟩ = some (.int .u64 k1) ∧ w'.cell? ⟨N4, 2, none⟩ = some (.int .u64 m) ∧ w'.cell? ⟨NP, 0, none⟩ = some (.string q.1) ∧ w'.cell? ⟨NP, 1, none⟩ = some (.string q.2)) (by kernel_rfl) hS0 ?_
          intro hS
          refine wpAnyH_take (i := 0) (oi := { dst := some 158, op := Go.Op.load 26 (Go.Operand.tmp 4), type := 26, pos := "law.go:229", after := #[], guard := none }) (v := .agg #[.int .u64 k0, .int .u64 k1, .int .u64 m]) rfl (by kernel_rfl) (by kernel_rfl) (by kernel_rfl) (fun _ _ _ h => h) (Or.inl ⟨by rfl, fun w hSw => ?_⟩) hS ?_
          · go_split_ands
            go_simp
          try simp only [Act.put, List.setIfInBounds_toArray, List.set_cons_zero, List.set_cons_succ]
          refine wpAnyH_take (i := 1) (oi := { dst := some 159, op := Go.Op.move (Go.Operand.tmp 13), type := 30, pos := "law.go:229", after := #[], guard := none }) (v := .pointer (some ⟨bq, 0, none⟩)) rfl (by kernel_rfl) (by kernel_rfl) (by kernel_rfl) (fun _ _ _ h => h) (Or.inl ⟨by rfl, fun w hSw => ?_⟩) hS ?_
          · go_split_ands
            go_simp
          try simp only [Act.put, List.setIfInBounds_toArray, List.set_cons_zero, List.set_cons_succ]
          refine wpAnyH_take (i := 2) (oi := { dst := some 160, op := Go.Op.load 34 (Go.Operand.tmp 24), type := 34, pos := "law.go:229", after := #[], guard := none }) (v := .agg #[.string q.1, .string q.2]) rfl (by kernel_rfl) (by kernel_rfl) (by kernel_rfl) (fun _ _ _ h => h) (Or.inl ⟨by rfl, fun w hSw => ?_⟩) hS ?_
          · go_split_ands
            go_simp
          try simp only [Act.put, List.setIfInBounds_toArray, List.set_cons_zero, List.set_cons_succ]
          refine wpAnyH_ready (rs := [3]) (by kernel_rfl) (by simp) ?_
          refine AllReadyH.cons (o := { dst := some 161, op := Go.Op.call { callee := Go.Callee.value (Go.Operand.func 11), args := #[Go.Operand.tmp 160], argTypes := #[34] }, type := 34, pos := "law.go:229", after := #[{ on := 2, ground := Go.Ground.data }], guard := none }) rfl (fun K hK => ?_) AllReadyH.nil
          go_simp
          refine (kfew _).mono ?_
          rintro e wA ⟨rfl, hBA⟩
          go_wp2_with fail
          have hSn := keep5 hS hBA
          refine hK.out _ _ hSn (fun _ => ?_)
          clear hK K hS
          try simp only [Act.put, List.setIfInBounds_toArray, List.set_cons_zero, List.set_cons_succ]
          have hS := hSn
          clear hSn
          have hB := hB.trans (hBA.mono hB.size)
          have hTn := hTn.below hBA
          have hTm := hTm.below hBA
          have hR9 := hR9.below hBA
          have hH := hH.below hBA
          have hP := hP.below hBA
          clear hBA
          refine wpAnyH_take (i := 4) (oi := { dst := some 162, op := Go.Op.field 34 (Go.Operand.tmp 161) 0, type := 9, pos := "law.go:229", after := #[{ on := 3, ground := Go.Ground.data }], guard := none }) (v := .string p.1) rfl (by kernel_rfl) (by kernel_rfl) (by kernel_rfl) (fun _ _ _ h => h) (Or.inl ⟨by rfl, fun w hSw => ?_⟩) hS ?_
          · go_split_ands
            go_simp
          try simp only [Act.put, List.setIfInBounds_toArray, List.set_cons_zero, List.set_cons_succ]
          refine wpAnyH_ready (rs := [5]) (by kernel_rfl) (by simp) ?_
          refine AllReadyH.cons (o := { dst := some 163, op := Go.Op.call { callee := Go.Callee.value (Go.Operand.func 13), args := #[Go.Operand.tmp 158, Go.Operand.const (Go.Value.pointer none), Go.Operand.tmp 159, Go.Operand.tmp 162], argTypes := #[26, 56, 30, 9] }, type := 40, pos := "law.go:229", after := #[{ on := 0, ground := Go.Ground.data }, { on := 1, ground := Go.Ground.data }, { on := 4, ground := Go.Ground.data }, { on := 3, ground := Go.Ground.chain }], guard := none }) rfl (fun K hK => ?_) AllReadyH.nil
          go_simp
          refine (kd _ hB.size hTm).mono ?_
          rintro e wC ⟨b1, rfl, hT1, hBC, -⟩
          go_wp2_with fail
          have hSn := keep5 hS hBC
          refine hK.out _ _ hSn (fun _ => ?_)
          clear hK K hS
          try simp only [Act.put, List.setIfInBounds_toArray, List.set_cons_zero, List.set_cons_succ]
          have hS := hSn
          clear hSn
          have hB := hB.trans (hBC.mono hB.size)
          have hTn := hTn.below hBC
          have hR9 := hR9.below hBC
          have hH := hH.below hBC
          have hP := hP.below hBC
          clear hBC
          refine wpAnyH_take (i := 6) (oi := { dst := some 157, op := Go.Op.move (Go.Operand.tmp 163), type := 40, pos := "law.go:229", after := #[{ on := 5, ground := Go.Ground.data }], guard := none }) (v := .tuple #[.pointer (some ⟨b1, 0, none⟩), .bool (getK M p.1).isSome]) rfl (by kernel_rfl) (by kernel_rfl) (by kernel_rfl) (fun _ _ _ h => h) (Or.inl ⟨by rfl, fun w hSw => ?_⟩) hS ?_
          · go_split_ands
            go_simp
          try simp only [Act.put, List.setIfInBounds_toArray, List.set_cons_zero, List.set_cons_succ]
          refine wpAnyH_take (i := 7) (oi := { dst := some 164, op := Go.Op.extract (Go.Operand.tmp 157) 0, type := 30, pos := "law.go:229", after := #[{ on := 6, ground := Go.Ground.data }], guard := none }) (v := .pointer (some ⟨b1, 0, none⟩)) rfl (by kernel_rfl) (by kernel_rfl) (by kernel_rfl) (fun _ _ _ h => h) (Or.inl ⟨by rfl, fun w hSw => ?_⟩) hS ?_
          · go_split_ands
            go_simp
          try simp only [Act.put, List.setIfInBounds_toArray, List.set_cons_zero, List.set_cons_succ]
          refine wpAnyH_take (i := 8) (oi := { dst := some 165, op := Go.Op.extract (Go.Operand.tmp 157) 1, type := 4, pos := "law.go:229", after := #[{ on := 6, ground := Go.Ground.data }, { on := 9, ground := Go.Ground.gcOnly Go.Departure.lateStores }], guard := none }) (v := .bool (getK M p.1).isSome) rfl (by kernel_rfl) (by kernel_rfl) (by kernel_rfl) (fun _ _ _ h => h) (Or.inl ⟨by rfl, fun w hSw => ?_⟩) hS ?_
          · go_split_ands
            go_simp
          try simp only [Act.put, List.setIfInBounds_toArray, List.set_cons_zero, List.set_cons_succ]
          refine wpAnyH_take (i := 9) (oi := { dst := some 13, op := Go.Op.assign (Go.Operand.tmp 164), type := 30, pos := "law.go:229", after := #[{ on := 7, ground := Go.Ground.data }, { on := 5, ground := Go.Ground.chain }, { on := 0, ground := Go.Ground.phase }, { on := 1, ground := Go.Ground.phase }, { on := 2, ground := Go.Ground.phase }, { on := 3, ground := Go.Ground.phase }, { on := 4, ground := Go.Ground.phase }, { on := 5, ground := Go.Ground.phase }, { on := 6, ground := Go.Ground.phase }, { on := 7, ground := Go.Ground.phase }, { on := 8, ground := Go.Ground.textOnly Go.Departure.lateStores }], guard := none }) (v := .pointer (some ⟨b1, 0, none⟩)) rfl (by kernel_rfl) (by kernel_rfl) (by kernel_rfl) (fun _ _ _ h => h) (Or.inl ⟨by rfl, fun w hSw => ?_⟩) hS ?_
          · go_split_ands
            go_simp
          try simp only [Act.put, List.setIfInBounds_toArray, List.set_cons_zero, List.set_cons_succ]
          refine wpAnyH_done (by kernel_rfl) ?_ _

          clear hS kd hTm hfl kfew hP
          generalize (getK M p.1).isSome = gb at *
          go_wp2_with fail
          refine ⟨⟨j + 1, b1, dropK M p.1, by omega, by go_num, rfl, drop_rises _ _ hrM, Nat.le_trans (List.length_filter_le _ _) hlM, Lib.hid (fun z hz => ?_), Lib.hid (fun z hz => drop_key_mem.2 ⟨HSM.out z hz, Hno.out z hz⟩), hT1, hTn, hR9, hH, hB⟩, by simp [intOf]; omega⟩
          obtain ⟨z1, z2⟩ := drop_key_mem.1 hz
          rcases HM.out z z1 with h | h
          · exact .inl h
          · rcases gks_drop HG.out h with h | h
            · exact absurd h z2
            · exact .inr h
      · have G : ¬ ((j : Int) < 20) := by omega
        clear hik hP kfew hfl
        generalize isK S p.1 = gk at *
        go_wp2_with fail
        refine ⟨⟨j + 1, bq, M, by omega, by go_num, rfl, hrM, hlM, Lib.hid (fun z hz => ?_), HSM, hTm, hTn, hR9, hH, hB⟩, by simp [intOf]; omega⟩
        rcases HM.out z hz with h | h
        · exact .inl h
        · have e0 : (gks ps3).drop j = [] := List.drop_eq_nil_of_le (by have := gks_len ps3; omega)
          rw [e0] at h; simp at h
    · obtain rfl : j = len3 := by omega
      have G : ¬ ((j : Int) < (j : Int)) := by omega
      have hgl : (gks ps3).length ≤ j := by
        rcases HA3.out with ⟨_, h, _, h'⟩ | ⟨x, _, hl, _⟩
        · rw [h']; simp [gks]
        · unfold gks; rw [List.length_map, List.length_take]; omega
      have e0 : (gks ps3).drop j = [] := List.drop_eq_nil_of_le hgl
      have e : M = S := rises_ext hrM hrS fun z => ⟨fun hz => by
        rcases HM.out z hz with h | h
        · exact h
        · rw [e0] at h; simp at h, fun hz => HSM.out z hz⟩
      subst e
      have HFF := Lib.hid (HF.out wr bq hB hTn hR9 hH hTm)
      clear HF hTn hR9 hH hTm HA3
      repeat (first | exact HFF.out _ _ _ _ _ _ _ _ _ _ _ _ _ _ _ _ _ _ _ _ _ _ _ _ _ _ _ _ _ _ _ _ _ _ _ _ _ _ _ _ _ _ _ _ _ _ _ _ _ _ _ _ _ _ _ _ _ _ _ _ _ _ _ _ _ _ _ _ _ _ _ _ _ _ _ _ _ _ _ _ _ _ _ _ _ _ _ _ _ _ _ _ _ _ _ _ _ _ _ _ _ _ _ _ _ _ _ _ _ _ _ _ _ _ _ _ _ _ _ _ _ _ _ _ _ _ _ _ _ _ _ _ _ _ _ _ _ _ _ _ _ _ _ _ _ _ _ _ _ _ _ _ _ _ _ _ _ _ _ _ _ _ _ _ _ _ _ _ _ _ _ _ _ _ _ _ _ _ _ _ _ _ _ _ | go_step)
end Go.Proofs.YtfmbikmpobieoaaGreat.champOrders
/- ChampOrders, part by part. -/
namespace Go.Proofs.YtfmbikmpobieoaaGreat.champOrders
open Go.ChangeShapes Go.WideShapes Go.RowKit Go.Lib
set_option linter.unusedVariables false
set_option linter.unusedSimpArgs false
set_option maxRecDepth 100000
attribute [local irreducible] cnt
noncomputable def ord31 : Code := (Tryz.f6.body.bind (fromRegion 31)).getD .skip
set_option maxHeartbeats 8000000 in
theorem ord31_any (post : Ending → World → Prop) (k0 k1 m : Int) (w0 w : World) (h0 : U64 k0) (h1 : U64 k1) (N4 bn bm : Nat) (S : List Pr) (A9 : Option Addr) (c9 : Nat)
    (hB0 : Below w0.heap.size w0 w) (hTn : TP k0 k1 m w0.heap.size w bn S) (hR9 : Rd w A9 S) (hH : Blk w N4 26 #[.int .u64 k0, .int .u64 k1, .int .u64 m]) (hrS : RisesL S) (hlS : S.length ≤ 30) (hzS : ∀ x ∈ S, x.1.size ≤ 40) (hpost : ∀ w', Below w0.heap.size w0 w' → post (.returned (.bool true)) w') (a3 : Option Addr) (len3 cap3 : Nat) (ps3 : List Pr) (hp3 : ArgP w0 a3 len3 cap3 ps3) (M0 T : List Pr) (At : Option Addr) (ct : Nat) (hTm : TP k0 k1 m w0.heap.size w bm M0) (hrM : RisesL M0) (hlM : M0.length ≤ 20) (hzM : ∀ x ∈ M0, x.1.size ≤ 40) (hM0 : ∀ p ∈ M0, p.1 ∈ gks ps3) (hRt : Rd w At T) (hlT : T.length = S.length) (hTS : ∀ p, p ∈ T ↔ p ∈ S) (x0 x1 x2 x5 x6 x7 x8 x10 x11 x14 x15 x17 x18 x19 x20 x21 x22 x23 x24 x25 x26 x27 x28 x29 x30 x31 x32 x33 x34 x35 x36 x37 x38 x39 x40 x41 x42 x43 x44 x45 x46 x47 x48 x49 x50 x51 x52 x53 x54 x55 x56 x57 x58 x59 x60 x61 x62 x63 x64 x65 x66 x67 x68 x69 x70 x71 x72 x73 x74 x75 x76 x77 x78 x79 x80 x81 x82 x83 x84 x85 x86 x87 x88 x89 x90 x91 x92 x93 x94 x95 x96 x97 x98 x99 x100 x101 x102 x103 x104 x105 x106 x107 x108 x109 x110 x111 x112 x113 x114 x115 x116 x117 x118 x119 x120 x121 x122 x123 x124 x125 x126 x127 x128 x129 x130 x131 x132 x133 x134 x135 x136 x137 x138 x139 x140 x141 x142 x143 x144 x145 x146 x147 x148 x149 x150 x151 x152 x153 x154 x155 x156 x157 x158 x159 x160 x161 x162 x163 x164 x165 x166 x167 x168 x169 x170 x171 x172 x173 x174 x175 x176 x177 x178 x179 x180 x181 x182 x183 x184 x185 x186 x187 : Value) :
    Code.wp Tryz.prog ord31 (bodyPost Tryz.prog Tryz.f6 post) ⟨#[x0, x1, x2, .slice a3 len3 cap3, .pointer (some ⟨N4, 0, none⟩), x5, x6, x7, x8, .slice A9 S.length c9, x10, x11, .pointer (some ⟨bn, 0, none⟩), .pointer (some ⟨bm, 0, none⟩), x14, x15, .slice At T.length ct, x17, x18, x19, x20, x21, x22, x23, x24, x25, x26, x27, x28, x29, x30, x31, x32, x33, x34, x35, x36, x37, x38, x39, x40, x41, x42, x43, x44, x45, x46, x47, x48, x49, x50, x51, x52, x53, x54, x55, x56, x57, x58, x59, x60, x61, x62, x63, x64, x65, x66, x67, x68, x69, x70, x71, x72, x73, x74, x75, x76, x77, x78, x79, x80, x81, x82, x83, x84, x85, x86, x87, x88, x89, x90, x91, x92, x93, x94, x95, x96, x97, x98, x99, x100, x101, x102, x103, x104, x105, x106, x107, x108, x109, x110, x111, x112, x113, x114, x115, x116, x117, x118, x119, x120, x121, x122, x123, x124, x125, x126, x127, x128, x129, x130, x131, x132, x133, x134, x135, x136, x137, x138, x139, x140, x141, x142, x143, x144, x145, x146, x147, x148, x149, x150, x151, x152, x153, x154, x155, x156, x157, x158, x159, x160, x161, x162, x163, x164, x165, x166, x167, x168, x169, x170, x171, x172, x173, x174, x175, x176, x177, x178, x179, x180, x181, x182, x183, x184, x185, x186, x187], []⟩ w := by
  have HF := Lib.hid (fun wr bm M0 hB hTn hR9 hH hTm hrM hlM hM hS => ord36_any post k0 k1 m w0 wr h0 h1 N4 bn bm S A9 c9 hB hTn hR9 hH hrS hlS hzS hpost a3 len3 cap3 ps3 hp3 M0 hTm hrM hlM hM hS)
  have HTS := Lib.hid hTS
  clear hpost hp3 hTS
  simp only []
  conv => arg 2; whnf
  go_wp2_with fail
  go_loopw [13, 124] (fun v13 vi wr => ∃ (j bq : Nat) (M : List Pr), j ≤ T.length ∧ vi = .int .i64 j ∧ v13 = .pointer (some ⟨bq, 0, none⟩) ∧ RisesL M ∧ M.length ≤ 20 + j ∧ (∀ x ∈ M, x.1.size ≤ 40) ∧ Hid (∀ p ∈ M, p ∈ S ∨ p.1 ∈ gks ps3) ∧ Hid (∀ p ∈ T.take j, p ∈ M) ∧ TP k0 k1 m w0.heap.size wr bq M ∧ TP k0 k1 m w0.heap.size wr bn S ∧ Rd wr A9 S ∧ Rd wr At T ∧ Blk wr N4 26 #[.int .u64 k0, .int .u64 k1, .int .u64 m] ∧ Below w0.heap.size w0 wr) (fun v13 vi wr => T.length - (intOf vi).toNat)
  case atStart => exact ⟨0, bm, M0, by omega, rfl, rfl, hrM, by omega, hzM, Lib.hid (fun p hp => .inr (hM0 p hp)), Lib.hid (by simp), hTm, hTn, hR9, hRt, hH, hB0⟩
  case round =>
    clear hTm hTn hR9 hRt hH hB0 hM0 hrM hlM hzM
    obtain ⟨j, bq, M, hj, rfl, rfl, hrM, hlM, hzM, HM, HTM, hTm, hTn, hR9, hRt, hH, hB⟩ := hrel
    by_cases hlt : j < T.length
    · obtain ⟨g, off, rfl, c0, c1⟩ := hRt j T[j] (List.getElem?_eq_getElem hlt)
      have L1 : (j : Int) < (T.length : Int) := by omega
      have L2 : IntKind.i64.wrap ((j : Int) + 1) = ((j + 1 : Nat) : Int) := by rw [IntWalk.i64_in _ (by omega)]; omega
      have HTk := Lib.hid (List.take_succ_eq_append_getElem hlt)
      have hqS : T[j] ∈ S := (HTS.out _).1 (List.getElem_mem hlt)
      have HTT := Lib.hid (fun p (hp : p ∈ T.take j) => (HTS.out p).1 (List.mem_of_mem_take hp))
      generalize T[j] = q at *
      have hq1 := hzS q hqS
      go_upto_region 34 with (fail)
      have hBl := (Below.refl _ wr).alloc (Nat.le_refl _) (.cells #[.string q.1, .string q.2] 34)
      have hP := Blk.new wr 34 #[.string q.1, .string q.2]
      have hB := hB.trans (hBl.mono hB.size)
      have hTn := hTn.below hBl
      have hTm := hTm.below hBl
      have hR9 := hR9.below hBl
      have hRt := hRt.below hBl
      have hH := hH.below hBl

      clear hBl c0 c1
      generalize wr.alloc (.cells #[.string q.1, .string q.2] 34) = W1 at *
      generalize wr.heap.size = NP at *
      have p0 : W1.cell? ⟨NP, 0, none⟩ = some (.string q.1) := hP.cell 0
      have p1 : W1.cell? ⟨NP, 1, none⟩ = some (.string q.2) := hP.cell 1
      have s0 : W1.cell? ⟨N4, 0, none⟩ = some (.int .u64 k0) := hH.cell 0
      have s1 : W1.cell? ⟨N4, 1, none⟩ = some (.int .u64 k1) := hH.cell 1
      have s2 : W1.cell? ⟨N4, 2, none⟩ = some (.int .u64 m) := hH.cell 2

      have kp := put_plain q h0 h1 (by omega) hB.size hTm hrM (by omega) (fun x hx => Nat.le_trans (hzM x hx) (by omega))
      clear hP
      go_wp2_with fail
      refine kp.mono ?_
      rintro e w1 ⟨b1, rfl, hT1, hB1, -⟩
      have hB := hB.trans (hB1.mono hB.size)
      have hTn := hTn.below hB1
      have hR9 := hR9.below hB1
      have hRt := hRt.below hB1
      have hH := hH.below hB1

      clear kp s0 s1 s2 p0 p1 hB1 hTm
      generalize (getK M q.1).isNone = gb at *
      go_wp2_with fail
      refine ⟨⟨j + 1, b1, putK M q, by omega, by go_num, rfl, put_rises _ hrM, ?_, fun z hz => ?_, Lib.hid (fun z hz => ?_), Lib.hid (fun z hz => ?_), hT1, hTn, hR9, hRt, hH, hB⟩, by simp [intOf]; omega⟩
      · have := put_len (ps := M) q
        omega
      · rcases put_sets.1 hz with rfl | ⟨h, _⟩
        · exact hq1
        · exact hzM z h
      · rcases put_sets.1 hz with rfl | ⟨h, _⟩
        · exact .inl hqS
        · exact HM.out z h
      · rw [HTk.out] at hz
        rcases List.mem_append.1 hz with h | h
        · by_cases e : z.1 = q.1
          · exact put_sets.2 (.inl (rises_key hrS (HTT.out z h) hqS e))
          · exact put_sets.2 (.inr ⟨HTM.out z h, e⟩)
        · rw [List.mem_singleton] at h
          exact put_sets.2 (.inl h)
    · obtain rfl : j = T.length := by omega
      have G : ¬ ((T.length : Int) < (T.length : Int)) := by omega
      have HFF := Lib.hid (HF.out wr bq M hB hTn hR9 hH hTm hrM (by omega) HM.out (fun p hp => HTM.out p (by rw [List.take_length]; exact (HTS.out p).2 hp)))
      clear HF hTn hR9 hRt hH hTm
      repeat (first | exact HFF.out _ _ _ _ _ _ _ _ _ _ _ _ _ _ _ _ _ _ _ _ _ _ _ _ _ _ _ _ _ _ _ _ _ _ _ _ _ _ _ _ _ _ _ _ _ _ _ _ _ _ _ _ _ _ _ _ _ _ _ _ _ _ _ _ _ _ _ _ _ _ _ _ _ _ _ _ _ _ _ _ _ _ _ _ _ _ _ _ _ _ _ _ _ _ _ _ _ _ _ _ _ _ _ _ _ _ _ _ _ _ _ _ _ _ _ _ _ _ _ _ _ _ _ _ _ _ _ _ _ _ _ _ _ _ _ _ _ _ _ _ _ _ _ _ _ _ _ _ _ _ _ _ _ _ _ _ _ _ _ _ _ _ _ _ _ _ _ _ _ _ _ _ _ _ _ _ _ _ _ _ _ _ _ | go_step)
end Go.Proofs.YtfmbikmpobieoaaGreat.champOrders
/- ChampOrders, part by part. -/
namespace Go.Proofs.YtfmbikmpobieoaaGreat.champOrders
open Go.ChangeShapes Go.WideShapes Go.RowKit Go.Lib
set_option linter.unusedVariables false
set_option linter.unusedSimpArgs false
set_option maxRecDepth 100000
attribute [local irreducible] cnt
noncomputable def ord25 : Code := (Tryz.f6.body.bind (fromRegion 25)).getD .skip
set_option maxHeartbeats 16000000 in
theorem ord25_any (post : Ending → World → Prop) (k0 k1 m : Int) (w0 w : World) (h0 : U64 k0) (h1 : U64 k1) (N4 bn bm : Nat) (S : List Pr) (A9 : Option Addr) (c9 : Nat)
    (hB0 : Below w0.heap.size w0 w) (hTn : TP k0 k1 m w0.heap.size w bn S) (hR9 : Rd w A9 S) (hH : Blk w N4 26 #[.int .u64 k0, .int .u64 k1, .int .u64 m]) (hrS : RisesL S) (hlS : S.length ≤ 30) (hzS : ∀ x ∈ S, x.1.size ≤ 40) (hpost : ∀ w', Below w0.heap.size w0 w' → post (.returned (.bool true)) w') (a3 : Option Addr) (len3 cap3 : Nat) (ps3 : List Pr) (hp3 : ArgP w0 a3 len3 cap3 ps3) (T : List Pr) (At : Option Addr) (ct : Nat) (hTm : TP k0 k1 m w0.heap.size w bm []) (hRt : Rd w At T) (hlT : T.length = S.length) (hTS : ∀ p, p ∈ T ↔ p ∈ S) (x0 x1 x2 x5 x6 x7 x8 x10 x11 x14 x15 x17 x18 x19 x20 x21 x22 x23 x24 x25 x26 x27 x28 x29 x30 x31 x32 x33 x34 x35 x36 x37 x38 x39 x40 x41 x42 x43 x44 x45 x46 x47 x48 x49 x50 x51 x52 x53 x54 x55 x56 x57 x58 x59 x60 x61 x62 x63 x64 x65 x66 x67 x68 x69 x70 x71 x72 x73 x74 x75 x76 x77 x78 x79 x80 x81 x82 x83 x84 x85 x86 x87 x88 x89 x90 x91 x92 x93 x94 x95 x96 x97 x98 x99 x100 x101 x102 x103 x104 x105 x106 x107 x108 x109 x110 x111 x112 x113 x114 x115 x116 x117 x118 x119 x120 x121 x122 x123 x124 x125 x126 x127 x128 x129 x130 x131 x132 x133 x134 x135 x136 x137 x138 x139 x140 x141 x142 x143 x144 x145 x146 x147 x148 x149 x150 x151 x152 x153 x154 x155 x156 x157 x158 x159 x160 x161 x162 x163 x164 x165 x166 x167 x168 x169 x170 x171 x172 x173 x174 x175 x176 x177 x178 x179 x180 x181 x182 x183 x184 x185 x186 x187 : Value) :
    Code.wp Tryz.prog ord25 (bodyPost Tryz.prog Tryz.f6 post) ⟨#[x0, x1, x2, .slice a3 len3 cap3, .pointer (some ⟨N4, 0, none⟩), x5, x6, x7, x8, .slice A9 S.length c9, x10, x11, .pointer (some ⟨bn, 0, none⟩), .pointer (some ⟨bm, 0, none⟩), x14, x15, .slice At T.length ct, x17, x18, x19, x20, x21, x22, x23, x24, x25, x26, x27, x28, x29, x30, x31, x32, x33, x34, x35, x36, x37, x38, x39, x40, x41, x42, x43, x44, x45, x46, x47, x48, x49, x50, x51, x52, x53, x54, x55, x56, x57, x58, x59, x60, x61, x62, x63, x64, x65, x66, x67, x68, x69, x70, x71, x72, x73, x74, x75, x76, x77, x78, x79, x80, x81, x82, x83, x84, x85, x86, x87, x88, x89, x90, x91, x92, x93, x94, x95, x96, x97, x98, x99, x100, x101, x102, x103, x104, x105, x106, x107, x108, x109, x110, x111, x112, x113, x114, x115, x116, x117, x118, x119, x120, x121, x122, x123, x124, x125, x126, x127, x128, x129, x130, x131, x132, x133, x134, x135, x136, x137, x138, x139, x140, x141, x142, x143, x144, x145, x146, x147, x148, x149, x150, x151, x152, x153, x154, x155, x156, x157, x158, x159, x160, x161, x162, x163, x164, x165, x166, x167, x168, x169, x170, x171, x172, x173, x174, x175, x176, x177, x178, x179, x180, x181, x182, x183, x184, x185, x186, x187], []⟩ w := by
  have HF := Lib.hid (fun wr bm M0 hB hTn hR9 hH hTm hrM hlM hzM hM hRt => ord31_any post k0 k1 m w0 wr h0 h1 N4 bn bm S A9 c9 hB hTn hR9 hH hrS hlS hzS hpost a3 len3 cap3 ps3 hp3 M0 T At ct hTm hrM hlM hzM hM hRt hlT hTS)
  have hl3 := hp3.len_le
  have HA3 := Lib.hid hp3
  clear hpost hp3 hTS hlT
  simp only []
  conv => arg 2; whnf
  go_wp2_with fail
  go_loopw [13, 106] (fun v13 vi wr => ∃ (j bq : Nat) (M : List Pr), j ≤ len3 ∧ vi = .int .i64 j ∧ v13 = .pointer (some ⟨bq, 0, none⟩) ∧ RisesL M ∧ M.length ≤ j ∧ M.length ≤ 20 ∧ (∀ x ∈ M, x.1.size ≤ 40) ∧ Hid (∀ p ∈ M, p.1 ∈ gks ps3) ∧ TP k0 k1 m w0.heap.size wr bq M ∧ TP k0 k1 m w0.heap.size wr bn S ∧ Rd wr A9 S ∧ Rd wr At T ∧ Blk wr N4 26 #[.int .u64 k0, .int .u64 k1, .int .u64 m] ∧ Below w0.heap.size w0 wr) (fun v13 vi wr => len3 - (intOf vi).toNat)
  case atStart => exact ⟨0, bm, [], by omega, rfl, rfl, rises_nil, by simp, by simp, by simp, Lib.hid (by simp), hTm, hTn, hR9, hRt, hH, hB0⟩
  case round =>
    clear hTm hTn hR9 hRt hH hB0
    obtain ⟨j, bq, M, hj, rfl, rfl, hrM, hlj, hlM, hzM, HM, hTm, hTn, hR9, hRt, hH, hB⟩ := hrel
    by_cases hlt : j < len3
    · obtain ⟨x, rfl, hpl, c0, c1⟩ := argp_at HA3.out hB j hlt
      have L1 : (j : Int) < (len3 : Int) := by omega
      have L2 : IntKind.i64.wrap ((j : Int) + 1) = ((j + 1 : Nat) : Int) := by rw [IntWalk.i64_in _ (by omega)]; omega
      have HGA := Lib.hid (fun h20 => gks_at (ps := ps3) (j := j) h20 (by omega))
      generalize pat ps3 j = q at *
      go_upto_region 28 with (fail)
      have hBl := (Below.refl _ wr).alloc (Nat.le_refl _) (.cells #[.string q.1, .string q.2] 34)
      have hP := Blk.new wr 34 #[.string q.1, .string q.2]
      have hB := hB.trans (hBl.mono hB.size)
      have hTn := hTn.below hBl
      have hTm := hTm.below hBl
      have hR9 := hR9.below hBl
      have hRt := hRt.below hBl
      have hH := hH.below hBl

      clear hBl c0 c1 hpl
      generalize wr.alloc (.cells #[.string q.1, .string q.2] 34) = w3 at *
      generalize wr.heap.size = NP at *
      by_cases h20 : j < 20
      · have G : (j : Int) < 20 := by omega
        have HG := Lib.hid (List.mem_of_getElem? (HGA.out h20))
        have hp1 : (few40 q).1.size ≤ 40 := cut40_size q.1
        have kfew := fun w' => few_any q w'
        generalize few40 q = p at *
        have hp1000 : p.1.size ≤ 1000 := by omega
        have kp := fun w' (hw : w0.heap.size ≤ w'.heap.size) (hT : TP k0 k1 m w0.heap.size w' bq M) => put_plain p h0 h1 hp1000 hw hT hrM (by omega) (fun x hx => Nat.le_trans (hzM x hx) (by omega))
        go_upto_region 29 with (fail)
        have hS0 : (fun w' : World => w'.cell? ⟨N4, 0, none⟩ = some (.int .u64 k0) ∧ w'.cell? ⟨N4, 1, none⟩ = some (.int .u64 k1) ∧ w'.cell? ⟨N4, 2, none⟩ = some (.int .u64 m) ∧ w'.cell? ⟨NP, 0, none⟩ = some (.string q.1) ∧ w'.cell? ⟨NP, 1, none⟩ = some (.string q.2)) w3.drew := ⟨hH.cell 0, hH.cell 1, hH.cell 2, hP.cell 0, hP.cell 1⟩
        have hdr : Below w3.heap.size w3 w3.drew := (Below.refl _ w3).drew
        have hB := hB.trans (hdr.mono hB.size)
        have hTn := hTn.below hdr
        have hTm := hTm.below hdr
        have hR9 := hR9.below hdr
        have hH := hH.below hdr
        have hP := hP.below hdr
        have hRt := hRt.below hdr

        clear hdr
        refine wp_region_held_drew (S := fun w' : World => w'.cell? ⟨N4, 0, none⟩ = some (.int .u64 k0) ∧ w'.cell? ⟨N4, 1, none⟩ = some (.int .u64 k1) ∧ w'.cell? ⟨N4, 2, none⟩ = some (.int .u64 m) ∧ w'.cell? ⟨NP, 0, none⟩ = some (.string q.1) ∧ w'.cell? ⟨NP, 1, none⟩ = some (.string q.2)) (by kernel_rfl) hS0 ?_
        intro hS
        refine wpAnyH_take (i := 0) (oi := { dst := some 114, op := Go.Op.load 26 (Go.Operand.tmp 4), type := 26, pos := "law.go:221", after := #[], guard := none }) (v := .agg #[.int .u64 k0, .int .u64 k1, .int .u64 m]) rfl (by kernel_rfl) (by kernel_rfl) (by kernel_rfl) (fun _ _ _ h => h) (Or.inl ⟨by rfl, fun w hSw => ?_⟩) hS ?_
        · go_split_ands
          go_simp
        try simp only [Act.put, List.setIfInBounds_toArray, List.set_cons_zero, List.set_cons_succ]
        refine wpAnyH_take (i := 1) (oi := { dst := some 115, op := Go.Op.move (Go.Operand.tmp 13), type := 30, pos := "law.go:221", after := #[], guard := none }) (v := .pointer (some ⟨bq, 0, none⟩)) rfl (by kernel_rfl) (by kernel_rfl) (by kernel_rfl) (fun _ _ _ h => h) (Or.inl ⟨by rfl, fun w hSw => ?_⟩) hS ?_
        · go_split_ands
          go_simp
        try simp only [Act.put, List.setIfInBounds_toArray, List.set_cons_zero, List.set_cons_succ]
        refine wpAnyH_take (i := 2) (oi := { dst := some 116, op := Go.Op.load 34 (Go.Operand.tmp 20), type := 34, pos := "law.go:221", after := #[], guard := none }) (v := .agg #[.string q.1, .string q.2]) rfl (by kernel_rfl) (by kernel_rfl) (by kernel_rfl) (fun _ _ _ h => h) (Or.inl ⟨by rfl, fun w hSw => ?_⟩) hS ?_
        · go_split_ands
          go_simp
        try simp only [Act.put, List.setIfInBounds_toArray, List.set_cons_zero, List.set_cons_succ]
        refine wpAnyH_ready (rs := [3]) (by kernel_rfl) (by simp) ?_
        refine AllReadyH.cons (o := { dst := some 117, op := Go.Op.call { callee := Go.Callee.value (Go.Operand.func 11), args := #[Go.Operand.tmp 116], argTypes := #[34] }, type := 34, pos := "law.go:221", after := #[{ on := 2, ground := Go.Ground.data }], guard := none }) rfl (fun K hK => ?_) AllReadyH.nil
        go_simp
        refine (kfew _).mono ?_
        rintro e wA ⟨rfl, hBA⟩
        go_wp2_with fail
        have hSn := keep5 hS hBA
        refine hK.out _ _ hSn (fun _ => ?_)
        clear hK K hS
        try simp only [Act.put, List.setIfInBounds_toArray, List.set_cons_zero, List.set_cons_succ]
        have hS := hSn
        clear hSn
        have hB := hB.trans (hBA.mono hB.size)
        have hTn := hTn.below hBA
        have hTm := hTm.below hBA
        have hR9 := hR9.below hBA
        have hH := hH.below hBA
        have hP := hP.below hBA
        have hRt := hRt.below hBA
        clear hBA
        refine wpAnyH_ready (rs := [4]) (by kernel_rfl) (by simp) ?_
        refine AllReadyH.cons (o := { dst := some 118, op := Go.Op.call { callee := Go.Callee.value (Go.Operand.func 15), args := #[Go.Operand.tmp 114, Go.Operand.const (Go.Value.pointer none), Go.Operand.tmp 115, Go.Operand.tmp 117], argTypes := #[26, 56, 30, 34] }, type := 40, pos := "law.go:221", after := #[{ on := 0, ground := Go.Ground.data }, { on := 1, ground := Go.Ground.data }, { on := 3, ground := Go.Ground.data }, { on := 3, ground := Go.Ground.chain }], guard := none }) rfl (fun K hK => ?_) AllReadyH.nil
        go_simp
        refine (kp _ hB.size hTm).mono ?_
        rintro e wC ⟨b1, rfl, hT1, hBC, -⟩
        go_wp2_with fail
        have hSn := keep5 hS hBC
        refine hK.out _ _ hSn (fun _ => ?_)
        clear hK K hS
        try simp only [Act.put, List.setIfInBounds_toArray, List.set_cons_zero, List.set_cons_succ]
        have hS := hSn
        clear hSn
        have hB := hB.trans (hBC.mono hB.size)
        have hTn := hTn.below hBC
        have hR9 := hR9.below hBC
        have hH := hH.below hBC
        have hP := hP.below hBC
        have hRt := hRt.below hBC
        clear hBC
        refine wpAnyH_take (i := 5) (oi := { dst := some 113, op := Go.Op.move (Go.Operand.tmp 118), type := 40, pos := "law.go:221", after := #[{ on := 4, ground := Go.Ground.data }], guard := none }) (v := .tuple #[.pointer (some ⟨b1, 0, none⟩), .bool (getK M p.1).isNone]) rfl (by kernel_rfl) (by kernel_rfl) (by kernel_rfl) (fun _ _ _ h => h) (Or.inl ⟨by rfl, fun w hSw => ?_⟩) hS ?_
        · go_split_ands
          go_simp
        try simp only [Act.put, List.setIfInBounds_toArray, List.set_cons_zero, List.set_cons_succ]
        refine wpAnyH_take (i := 6) (oi := { dst := some 119, op := Go.Op.extract (Go.Operand.tmp 113) 0, type := 30, pos := "law.go:221", after := #[{ on := 5, ground := Go.Ground.data }], guard := none }) (v := .pointer (some ⟨b1, 0, none⟩)) rfl (by kernel_rfl) (by kernel_rfl) (by kernel_rfl) (fun _ _ _ h => h) (Or.inl ⟨by rfl, fun w hSw => ?_⟩) hS ?_
        · go_split_ands
          go_simp
        try simp only [Act.put, List.setIfInBounds_toArray, List.set_cons_zero, List.set_cons_succ]
        refine wpAnyH_take (i := 7) (oi := { dst := some 120, op := Go.Op.extract (Go.Operand.tmp 113) 1, type := 4, pos := "law.go:221", after := #[{ on := 5, ground := Go.Ground.data }, { on := 8, ground := Go.Ground.gcOnly Go.Departure.lateStores }], guard := none }) (v := .bool (getK M p.1).isNone) rfl (by kernel_rfl) (by kernel_rfl) (by kernel_rfl) (fun _ _ _ h => h) (Or.inl ⟨by rfl, fun w hSw => ?_⟩) hS ?_
        · go_split_ands
          go_simp
        try simp only [Act.put, List.setIfInBounds_toArray, List.set_cons_zero, List.set_cons_succ]
        refine wpAnyH_take (i := 8) (oi := { dst := some 13, op := Go.Op.assign (Go.Operand.tmp 119), type := 30, pos := "law.go:221", after := #[{ on := 6, ground := Go.Ground.data }, { on := 4, ground := Go.Ground.chain }, { on := 0, ground := Go.Ground.phase }, { on := 1, ground := Go.Ground.phase }, { on := 2, ground := Go.Ground.phase }, { on := 3, ground := Go.Ground.phase }, { on := 4, ground := Go.Ground.phase }, { on := 5, ground := Go.Ground.phase }, { on := 6, ground := Go.Ground.phase }, { on := 7, ground := Go.Ground.textOnly Go.Departure.lateStores }], guard := none }) (v := .pointer (some ⟨b1, 0, none⟩)) rfl (by kernel_rfl) (by kernel_rfl) (by kernel_rfl) (fun _ _ _ h => h) (Or.inl ⟨by rfl, fun w hSw => ?_⟩) hS ?_
        · go_split_ands
          go_simp
        try simp only [Act.put, List.setIfInBounds_toArray, List.set_cons_zero, List.set_cons_succ]
        refine wpAnyH_done (by kernel_rfl) ?_ _

        clear hS kp hTm kfew hP
        generalize (getK M p.1).isNone = gb at *
        go_wp2_with fail
        refine ⟨⟨j + 1, b1, putK M p, by omega, by go_num, rfl, put_rises _ hrM, ?_, ?_, fun z hz => ?_, Lib.hid (fun z hz => ?_), hT1, hTn, hR9, hRt, hH, hB⟩, by simp [intOf]; omega⟩
        · have := put_len (ps := M) p
          omega
        · have := put_len (ps := M) p
          omega
        · rcases put_sets.1 hz with rfl | ⟨h, _⟩
          · exact hp1
          · exact hzM z h
        · rcases put_sets.1 hz with rfl | ⟨h, _⟩
          · exact HG.out
          · exact HM.out z h
      · have G : ¬ ((j : Int) < 20) := by omega
        clear hP
        go_wp2_with fail
        exact ⟨⟨j + 1, bq, M, by omega, by go_num, rfl, hrM, by omega, hlM, hzM, HM, hTm, hTn, hR9, hRt, hH, hB⟩, by simp [intOf]; omega⟩
    · obtain rfl : j = len3 := by omega
      have G : ¬ ((j : Int) < (j : Int)) := by omega
      have HFF := Lib.hid (HF.out wr bq M hB hTn hR9 hH hTm hrM hlM hzM HM.out hRt)
      clear HF hTn hR9 hRt hH hTm HA3
      repeat (first | exact HFF.out _ _ _ _ _ _ _ _ _ _ _ _ _ _ _ _ _ _ _ _ _ _ _ _ _ _ _ _ _ _ _ _ _ _ _ _ _ _ _ _ _ _ _ _ _ _ _ _ _ _ _ _ _ _ _ _ _ _ _ _ _ _ _ _ _ _ _ _ _ _ _ _ _ _ _ _ _ _ _ _ _ _ _ _ _ _ _ _ _ _ _ _ _ _ _ _ _ _ _ _ _ _ _ _ _ _ _ _ _ _ _ _ _ _ _ _ _ _ _ _ _ _ _ _ _ _ _ _ _ _ _ _ _ _ _ _ _ _ _ _ _ _ _ _ _ _ _ _ _ _ _ _ _ _ _ _ _ _ _ _ _ _ _ _ _ _ _ _ _ _ _ _ _ _ _ _ _ _ _ _ _ _ | go_step)
end Go.Proofs.YtfmbikmpobieoaaGreat.champOrders
