/- ChampShrinks, part by part. -/
import Derived.Test.YtfmbikmpobieoaaGreatMFb
import Derived.Test.YtfmbikmpobieoaaGreatMQ
import Derived.BigQuiet
import Derived.Deep.RegionHeld3
namespace Go.Proofs.YtfmbikmpobieoaaGreat.champShrinks
open Go.ChangeShapes Go.WideShapes Go.RowKit Go.Lib
set_option linter.unusedVariables false
set_option linter.unusedSimpArgs false
set_option maxRecDepth 100000
attribute [local irreducible] cnt
theorem keep5 {w w' : World} {N2 N3 : Nat} {a b c d e : Value} (h : w.cell? ⟨N2, 0, none⟩ = some a ∧ w.cell? ⟨N2, 1, none⟩ = some b ∧ w.cell? ⟨N2, 2, none⟩ = some c ∧ w.cell? ⟨N3, 0, none⟩ = some d ∧ w.cell? ⟨N3, 1, none⟩ = some e) (hb : Below w.heap.size w w') :
    w'.cell? ⟨N2, 0, none⟩ = some a ∧ w'.cell? ⟨N2, 1, none⟩ = some b ∧ w'.cell? ⟨N2, 2, none⟩ = some c ∧ w'.cell? ⟨N3, 0, none⟩ = some d ∧ w'.cell? ⟨N3, 1, none⟩ = some e := by
  obtain ⟨h1, h2, h3, h4, h5⟩ := h
  have l2 := World.block_lt_of_cell? w _ h1
  have l3 := World.block_lt_of_cell? w _ h4
  exact ⟨(hb.cell (p := ⟨N2, 0, none⟩) l2).trans h1, (hb.cell (p := ⟨N2, 1, none⟩) l2).trans h2, (hb.cell (p := ⟨N2, 2, none⟩) l2).trans h3, (hb.cell (p := ⟨N3, 0, none⟩) l3).trans h4, (hb.cell (p := ⟨N3, 1, none⟩) l3).trans h5⟩
theorem field0 (k u : ByteArray) (w : World) : (Instr.field 34 (.agg #[.string k, .string u]) 0).run Tryz.prog w = .ok (.string k) w := by
  kernel_rfl
theorem shr_add {X Y : List Pr} {K : List ByteArray} {q : Pr} (h : ∀ p, p ∈ X ↔ p ∈ Y ∧ p.1 ∉ K) (hg : getK X q.1 = none) (p : Pr) : p ∈ X ↔ p ∈ putK Y q ∧ p.1 ∉ K ++ [q.1] := by
  have hn := getK_none.1 hg
  rw [put_sets, List.mem_append, List.mem_singleton, not_or]
  constructor
  · intro hp
    have h1 := (h p).1 hp
    exact ⟨.inr ⟨h1.1, hn p hp⟩, h1.2, hn p hp⟩
  · rintro ⟨h1 | h1, h2, h3⟩
    · exact absurd (by rw [h1]) h3
    · exact (h p).2 ⟨h1.1, h2⟩
noncomputable def shr29 : Code := (Tryz.f8.body.bind (fromRegion 29)).getD .skip
set_option maxHeartbeats 8000000 in
theorem shr29_any (post : Ending → World → Prop) (k0 k1 m : Int) (w0 w : World) (h0 : U64 k0) (h1 : U64 k1) (N4 bn bm : Nat) (X Y : List Pr) (K : List ByteArray) (v10 v14 : Value)
    (hB0 : Below w0.heap.size w0 w) (hTn : TP k0 k1 m w0.heap.size w bn X) (hOx : OwnR w0.heap.size w v10 X) (hH : Blk w N4 26 #[.int .u64 k0, .int .u64 k1, .int .u64 m]) (hrX : RisesL X) (hlX : X.length ≤ 25) (hzX : ∀ x ∈ X, x.1.size ≤ 40) (hpost : ∀ w', Below w0.heap.size w0 w' → post (.returned (.bool true)) w') (hTm : TP k0 k1 m w0.heap.size w bm Y) (hOk : OwnS w0.heap.size w v14 K) (hrY : RisesL Y) (hlY : Y.length ≤ 60) (hzK : ∀ k ∈ K, k.size ≤ 40) (hlK : K.length ≤ 20) (hXY : ∀ p, p ∈ X ↔ p ∈ Y ∧ p.1 ∉ K) (x0 x1 x2 x3 x5 x6 x7 x8 x11 x12 x15 x16 x17 x18 x19 x20 x21 x22 x23 x24 x25 x26 x27 x28 x29 x30 x31 x32 x33 x34 x35 x36 x37 x38 x39 x40 x41 x42 x43 x44 x45 x46 x47 x48 x49 x50 x51 x52 x53 x54 x55 x56 x57 x58 x59 x60 x61 x62 x63 x64 x65 x66 x67 x68 x69 x70 x71 x72 x73 x74 x75 x76 x77 x78 x79 x80 x81 x82 x83 x84 x85 x86 x87 x88 x89 x90 x91 x92 x93 x94 x95 x96 x97 x98 x99 x100 x101 x102 x103 x104 x105 x106 x107 x108 x109 x110 x111 x112 x113 x114 x115 x116 x117 x118 x119 x120 x121 x122 x123 x124 x125 x126 x127 x128 x129 x130 x131 x132 x133 x134 x135 x136 x137 x138 x139 x140 x141 x142 x143 x144 : Value) :
    Code.wp Tryz.prog shr29 (bodyPost Tryz.prog Tryz.f8 post) ⟨#[x0, x1, x2, x3, .pointer (some ⟨N4, 0, none⟩), x5, x6, x7, x8, .pointer (some ⟨bn, 0, none⟩), v10, x11, x12, .pointer (some ⟨bm, 0, none⟩), v14, x15, x16, x17, x18, x19, x20, x21, x22, x23, x24, x25, x26, x27, x28, x29, x30, x31, x32, x33, x34, x35, x36, x37, x38, x39, x40, x41, x42, x43, x44, x45, x46, x47, x48, x49, x50, x51, x52, x53, x54, x55, x56, x57, x58, x59, x60, x61, x62, x63, x64, x65, x66, x67, x68, x69, x70, x71, x72, x73, x74, x75, x76, x77, x78, x79, x80, x81, x82, x83, x84, x85, x86, x87, x88, x89, x90, x91, x92, x93, x94, x95, x96, x97, x98, x99, x100, x101, x102, x103, x104, x105, x106, x107, x108, x109, x110, x111, x112, x113, x114, x115, x116, x117, x118, x119, x120, x121, x122, x123, x124, x125, x126, x127, x128, x129, x130, x131, x132, x133, x134, x135, x136, x137, x138, x139, x140, x141, x142, x143, x144], []⟩ w := by
  obtain ⟨A14, c14, rfl⟩ := hOk.form
  obtain ⟨A10, c10, rfl, -⟩ := hOx.rd
  have HP := Lib.hid hpost
  have HXY := Lib.hid hXY
  clear hpost hXY
  simp only []
  conv => arg 2; whnf
  go_wp2_with fail
  go_loopw [13, 123] (fun v13 vi wr => ∃ (j bz : Nat) (Z : List Pr), j ≤ K.length ∧ vi = .int .i64 j ∧ v13 = .pointer (some ⟨bz, 0, none⟩) ∧ RisesL Z ∧ Z.length ≤ 60 ∧ (∀ p, p ∈ Z ↔ p ∈ Y ∧ p.1 ∉ K.take j) ∧ TP k0 k1 m w0.heap.size wr bz Z ∧ TP k0 k1 m w0.heap.size wr bn X ∧ OwnR w0.heap.size wr (.slice A10 X.length c10) X ∧ OwnS w0.heap.size wr (.slice A14 K.length c14) K ∧ Blk wr N4 26 #[.int .u64 k0, .int .u64 k1, .int .u64 m] ∧ Below w0.heap.size w0 wr) (fun v13 vi wr => K.length - (intOf vi).toNat)
  case atStart => exact ⟨0, bm, Y, by omega, rfl, rfl, hrY, hlY, fun p => by simp, hTm, hTn, hOx, hOk, hH, hB0⟩
  case round =>
    clear hTm hTn hOx hOk hH hB0 hrY hlY
    obtain ⟨j, bz, Z, hj, rfl, rfl, hrZ, hlZ, hZ, hTm, hTn, hOx, hOk, hH, hB⟩ := hrel
    by_cases hlt : j < K.length
    · obtain ⟨g, cap, e, c0, -⟩ := hOk.at j hlt
      simp only [Value.slice.injEq] at e
      obtain ⟨rfl, -, rfl⟩ := e
      have L1 : (j : Int) < (K.length : Int) := by omega
      have L2 : IntKind.i64.wrap ((j : Int) + 1) = ((j + 1 : Nat) : Int) := by rw [IntWalk.i64_in _ (by omega)]; omega
      have hks := hzK _ (List.getElem_mem hlt)
      have HTK := Lib.hid (List.take_succ_eq_append_getElem hlt)
      have HZ := Lib.hid hZ
      clear hZ
      generalize K[j] = k at *
      have kd := drop_plain (k := k) h0 h1 (by omega) hB.size hTm hrZ (by omega)
      have s0 : wr.cell? ⟨N4, 0, none⟩ = some (.int .u64 k0) := hH.cell 0
      have s1 : wr.cell? ⟨N4, 1, none⟩ = some (.int .u64 k1) := hH.cell 1
      have s2 : wr.cell? ⟨N4, 2, none⟩ = some (.int .u64 m) := hH.cell 2

      go_wp2_with fail
      refine kd.mono ?_
      rintro e w1 ⟨b1, rfl, hT1, hB1, -⟩
      have hB := hB.trans (hB1.mono hB.size)
      have hTn := hTn.below hB1
      have hOx := hOx.below' hB1
      have hOk := hOk.below hB1
      have hH := hH.below hB1

      clear kd s0 s1 s2 hB1 c0 hTm
      go_wp2_with fail
      refine ⟨⟨j + 1, b1, dropK Z k, by omega, by go_num, rfl, drop_rises _ _ hrZ, Nat.le_trans (List.length_filter_le _ _) hlZ, fun p => ?_, hT1, hTn, hOx, hOk, hH, hB⟩, by simp [intOf]; omega⟩
      rw [drop_key_mem, HZ.out p, HTK.out]
      simp only [List.mem_append, List.mem_singleton, not_or]
      exact ⟨fun h => ⟨h.1.1, h.1.2, h.2⟩, fun h => ⟨⟨h.1, h.2.1⟩, h.2.2⟩⟩
    · obtain rfl : j = K.length := by omega
      have e : Z = X := rises_ext hrZ hrX fun p => (hZ p).trans (by rw [List.take_length]; exact (HXY.out p).symm)
      subst e
      have G : ¬ ((K.length : Int) < (K.length : Int)) := by omega
      obtain ⟨A', c', e', hR⟩ := hOx.rd
      simp only [Value.slice.injEq] at e'
      obtain ⟨rfl, -, rfl⟩ := e'
      have kt := trie_plain (A := A10) (c := c10) hTm h0 h1 hR (by omega) (fun x hx => Nat.le_trans (hzX x hx) (by omega))
      have s0 : wr.cell? ⟨N4, 0, none⟩ = some (.int .u64 k0) := hH.cell 0
      have s1 : wr.cell? ⟨N4, 1, none⟩ = some (.int .u64 k1) := hH.cell 1
      have s2 : wr.cell? ⟨N4, 2, none⟩ = some (.int .u64 m) := hH.cell 2

      go_wp2_with fail
      refine kt.mono ?_
      rintro e w1 ⟨rfl, hB1⟩
      have hH := hH.below hB1
      have hB := hB.trans (hB1.mono hB.size)
      have kt2 := trie_plain (A := A10) (c := c10) (hTn.below hB1) h0 h1 (hR.below hB1) (by omega) (fun x hx => Nat.le_trans (hzX x hx) (by omega))
      clear kt s0 s1 s2 hB1
      have s0 : w1.cell? ⟨N4, 0, none⟩ = some (.int .u64 k0) := hH.cell 0
      have s1 : w1.cell? ⟨N4, 1, none⟩ = some (.int .u64 k1) := hH.cell 1
      have s2 : w1.cell? ⟨N4, 2, none⟩ = some (.int .u64 m) := hH.cell 2

      go_wp2_with fail
      refine kt2.mono ?_
      rintro e w2 ⟨rfl, hB2⟩
      go_wp2_with fail
      exact HP.out _ (hB.trans (hB2.mono hB.size))
noncomputable def shr22 : Code := (Tryz.f8.body.bind (fromRegion 22)).getD .skip
set_option maxHeartbeats 16000000 in
theorem shr22_any (post : Ending → World → Prop) (k0 k1 m : Int) (w0 w : World) (h0 : U64 k0) (h1 : U64 k1) (a3 : Option Addr) (len3 cap3 : Nat) (zs : List Int) (hrow : IsRow .u8 w0 a3 len3 cap3 zs) (N4 bn bm : Nat) (X Y : List Pr) (K : List ByteArray) (v10 v14 : Value)
    (hB0 : Below w0.heap.size w0 w) (hTn : TP k0 k1 m w0.heap.size w bn X) (hOx : OwnR w0.heap.size w v10 X) (hH : Blk w N4 26 #[.int .u64 k0, .int .u64 k1, .int .u64 m]) (hrX : RisesL X) (hlX : X.length ≤ 25) (hzX : ∀ x ∈ X, x.1.size ≤ 40) (hpost : ∀ w', Below w0.heap.size w0 w' → post (.returned (.bool true)) w') (hTm : TP k0 k1 m w0.heap.size w bm Y) (hOk : OwnS w0.heap.size w v14 K) (hrY : RisesL Y) (hlY : Y.length ≤ 60) (hzK : ∀ k ∈ K, k.size ≤ 40) (hlK : K.length ≤ 20) (hXY : ∀ p, p ∈ X ↔ p ∈ Y ∧ p.1 ∉ K) (x0 x1 x2 x5 x6 x7 x8 x11 x12 x15 x16 x17 x18 x19 x20 x21 x22 x23 x24 x25 x26 x27 x28 x29 x30 x31 x32 x33 x34 x35 x36 x37 x38 x39 x40 x41 x42 x43 x44 x45 x46 x47 x48 x49 x50 x51 x52 x53 x54 x55 x56 x57 x58 x59 x60 x61 x62 x63 x64 x65 x66 x67 x68 x69 x70 x71 x72 x73 x74 x75 x76 x77 x78 x79 x80 x81 x82 x83 x84 x85 x86 x87 x88 x89 x90 x91 x92 x93 x94 x95 x96 x97 x98 x99 x100 x101 x102 x103 x104 x105 x106 x107 x108 x109 x110 x111 x112 x113 x114 x115 x116 x117 x118 x119 x120 x121 x122 x123 x124 x125 x126 x127 x128 x129 x130 x131 x132 x133 x134 x135 x136 x137 x138 x139 x140 x141 x142 x143 x144 : Value) :
    Code.wp Tryz.prog shr22 (bodyPost Tryz.prog Tryz.f8 post) ⟨#[x0, x1, x2, .slice a3 len3 cap3, .pointer (some ⟨N4, 0, none⟩), x5, x6, x7, x8, .pointer (some ⟨bn, 0, none⟩), v10, x11, x12, .pointer (some ⟨bm, 0, none⟩), v14, x15, x16, x17, x18, x19, x20, x21, x22, x23, x24, x25, x26, x27, x28, x29, x30, x31, x32, x33, x34, x35, x36, x37, x38, x39, x40, x41, x42, x43, x44, x45, x46, x47, x48, x49, x50, x51, x52, x53, x54, x55, x56, x57, x58, x59, x60, x61, x62, x63, x64, x65, x66, x67, x68, x69, x70, x71, x72, x73, x74, x75, x76, x77, x78, x79, x80, x81, x82, x83, x84, x85, x86, x87, x88, x89, x90, x91, x92, x93, x94, x95, x96, x97, x98, x99, x100, x101, x102, x103, x104, x105, x106, x107, x108, x109, x110, x111, x112, x113, x114, x115, x116, x117, x118, x119, x120, x121, x122, x123, x124, x125, x126, x127, x128, x129, x130, x131, x132, x133, x134, x135, x136, x137, x138, x139, x140, x141, x142, x143, x144], []⟩ w := by
  obtain ⟨A14, c14, rfl⟩ := hOk.form
  obtain ⟨A10, c10, rfl, -⟩ := hOx.rd
  have HF := Lib.hid (fun wr K' (e1 : K'.length = K.length) (e2 : ∀ k, k ∈ K' ↔ k ∈ K) hB hTn hOx hH hTm (hOk : OwnS w0.heap.size wr (.slice A14 K.length c14) K') => shr29_any post k0 k1 m w0 wr h0 h1 N4 bn bm X Y K' (.slice A10 X.length c10) (.slice A14 K.length c14) hB hTn hOx hH hrX hlX hzX hpost hTm hOk hrY hlY (fun k hk => hzK k ((e2 k).1 hk)) (by omega) (fun p => by rw [e2]; exact hXY p))
  have hl3 := hrow.len_le
  have HR3 := Lib.hid hrow
  clear hpost hXY hrow hzK
  obtain ⟨KL, hKL⟩ : ∃ KL, KL = K.length := ⟨_, rfl⟩
  rw [← hKL] at hOk HF hlK ⊢
  have HKL := Lib.hid hKL
  clear hKL
  simp only []
  conv => arg 2; whnf
  go_wp2_with fail
  go_loopw [87] (fun vi wr => ∃ (j : Nat) (K' : List ByteArray), j ≤ KL ∧ vi = .int .i64 j ∧ K'.length = KL ∧ (∀ k, k ∈ K' ↔ k ∈ K) ∧ OwnS w0.heap.size wr (.slice A14 KL c14) K' ∧ TP k0 k1 m w0.heap.size wr bm Y ∧ TP k0 k1 m w0.heap.size wr bn X ∧ OwnR w0.heap.size wr (.slice A10 X.length c10) X ∧ Blk wr N4 26 #[.int .u64 k0, .int .u64 k1, .int .u64 m] ∧ Below w0.heap.size w0 wr) (fun vi wr => KL - (intOf vi).toNat)
  case atStart => exact ⟨0, K, by omega, rfl, HKL.out.symm, fun _ => Iff.rfl, hOk, hTm, hTn, hOx, hH, hB0⟩
  case round =>
    clear hTm hTn hOx hOk hH hB0
    obtain ⟨j, K', hj, rfl, hK'l, hKm', hOk, hTm, hTn, hOx, hH, hB⟩ := hrel
    have hKm := Lib.hid hKm'
    clear hKm'
    by_cases hlt : j < KL
    · have L1 : (j : Int) < (KL : Int) := by omega
      have L2 : IntKind.i64.wrap ((j : Int) + 1) = ((j + 1 : Nat) : Int) := by rw [IntWalk.i64_in _ (by omega)]; omega
      by_cases h3 : j < len3
      · have L3 : (j : Int) < (len3 : Int) := by omega
        obtain ⟨x, z, rfl, c0, hz0, hz1⟩ := HR3.out.at hB j h3
        obtain ⟨zn, rfl⟩ := Int.eq_ofNat_of_zero_le hz0
        obtain ⟨DD, hDD⟩ : ∃ DD, DD = KL - j := ⟨_, rfl⟩
        obtain ⟨RR, hRR⟩ : ∃ RR, RR = zn % DD := ⟨_, rfl⟩
        obtain ⟨J, hJ⟩ : ∃ J, J = j + RR := ⟨_, rfl⟩
        have hRD : RR < DD := by rw [hRR]; exact Nat.mod_lt _ (by omega)
        have M1 : IntKind.i64.wrap ((KL : Int) - (j : Int)) = (DD : Int) := by rw [IntWalk.i64_in _ (by omega)]; omega
        have M2 : ¬ ((DD : Int) = 0) := by omega
        have M3 : (zn : Int) % (DD : Int) = (RR : Int) := by rw [hRR]; omega
        have M4 : IntKind.i64.wrap ((j : Int) + (RR : Int)) = (J : Int) := by rw [IntWalk.i64_in _ (by omega)]; omega
        have M5 : IntKind.i64.wrap (zn : Int) = (zn : Int) := by rw [IntWalk.i64_in _ (by omega)]
        have hJK : J < KL := by omega
        have M6 : (J : Int) < (KL : Int) := by omega
        clear hJ hRR hDD hRD
        rw [← hK'l] at hlt hJK
        obtain ⟨g, cap, e, zi, yi⟩ := hOk.at j hlt
        obtain ⟨g', cap', e', zj, yj⟩ := hOk.at J hJK
        simp only [Value.slice.injEq] at e e'
        obtain ⟨rfl, -, rfl⟩ := e
        obtain ⟨e1, -, rfl⟩ := e'
        simp only [Option.some.injEq, Addr.mk.injEq, and_true] at e1
        subst e1
        have hblk9 : ∃ cs, Blk wr g 9 cs := by
          obtain ⟨cur, hc⟩ := own_cells hOk g rfl
          exact ⟨cur, hc⟩
        obtain ⟨cs9, hb9⟩ := hblk9
        have hOk0 : OwnS w0.heap.size wr (.slice (some ⟨g, 0, none⟩) K'.length c14) K' := by rw [hK'l]; exact hOk
        have hsw := hOk0.swap j J hlt hJK
        rw [hK'l] at hsw
        obtain ⟨K2, hK2⟩ : ∃ K2, K2 = (K'.set j K'[J]).set J K'[j] := ⟨_, rfl⟩
        rw [← hK2] at hsw
        have hK2l : K2.length = KL := by rw [hK2, List.length_set, List.length_set]; exact hK'l
        have HKM := Lib.hid (fun k => by rw [hK2]; exact swap_mem hlt hJK k : ∀ k, k ∈ K2 ↔ k ∈ K')
        have hk2 := Keep.two wr g j J (.string K'[J]) (.string K'[j])
        have HTN := Lib.hid (hTn.apart hb9 (by decide) (by decide) (by decide) (by decide) hk2)
        have HTM := Lib.hid (hTm.apart hb9 (by decide) (by decide) (by decide) (by decide) hk2)
        have HOX : Hid (OwnR w0.heap.size _ (.slice A10 X.length c10) X) := Lib.hid (own_keep hOx hk2 (fun x hx e => by
          simp at hx
          subst hx
          obtain ⟨cur, hc⟩ := own_cells hOx x e
          unfold Blk at hb9
          rw [hc] at hb9
          simp at hb9))
        have HHH := Lib.hid (hH.keep hk2 (fun hm => by
          simp at hm
          subst hm
          unfold Blk at hb9 hH
          rw [hH] at hb9
          simp at hb9))
        have hge : w0.heap.size ≤ g := own_ge hOk g rfl
        have HBB := Lib.hid ((hB.setCell (p := ⟨g, j, none⟩) hge (.string K'[J])).setCell (p := ⟨g, J, none⟩) hge (.string K'[j]))
        have HOK := Lib.hid hsw
        have hjj : (j = J → K'[J] = K'[j]) := fun e => by subst e; rfl
        clear hsw hk2 hOk0 hOk hTm hTn hOx hH hB hK2 hb9 HR3
        generalize K'[J] = kj at *
        generalize K'[j] = ki at *
        rw [hK'l] at hlt hJK
        by_cases hij : j = J
        · have ekk := hjj hij
          subst hij
          subst ekk
          clear hjj
          go_upto_region 27 with (fail)
          refine wp_region_late (S := fun w' => w'.cell? ⟨g, j, none⟩ = some (.string kj) ∧ w'.cell? ⟨g, j, none⟩ = some (.string kj)) (st := 13) (by kernel_rfl) ?_
          have hS : (fun w' : World => w'.cell? ⟨g, j, none⟩ = some (.string kj) ∧ w'.cell? ⟨g, j, none⟩ = some (.string kj)) wr.drew := ⟨zj, zi⟩
          refine wpAnyL_take0 (i := 0) (oi := { dst := some 106, op := Go.Op.move (Go.Operand.tmp 14), type := 28, pos := "law.go:276", after := #[], guard := none }) (v := .slice (some ⟨g, 0, none⟩) KL c14) rfl (by kernel_rfl) (by kernel_rfl) (by kernel_rfl) (by kernel_rfl) (fun _ _ _ h => h) hS (Or.inl ⟨by rfl, fun w hSw => ?_⟩) ?_
          · go_split_ands
            go_simp
          try simp only [Act.put, List.setIfInBounds_toArray, List.set_cons_zero, List.set_cons_succ]
          refine wpAnyL_take0 (i := 1) (oi := { dst := some 107, op := Go.Op.move (Go.Operand.tmp 19), type := 3, pos := "law.go:276", after := #[], guard := none }) (v := .int .i64 j) rfl (by kernel_rfl) (by kernel_rfl) (by kernel_rfl) (by kernel_rfl) (fun _ _ _ h => h) hS (Or.inl ⟨by rfl, fun w hSw => ?_⟩) ?_
          · go_split_ands
            go_simp
          try simp only [Act.put, List.setIfInBounds_toArray, List.set_cons_zero, List.set_cons_succ]
          refine wpAnyL_take0 (i := 2) (oi := { dst := some 108, op := Go.Op.move (Go.Operand.tmp 14), type := 28, pos := "law.go:276", after := #[{ on := 13, ground := Go.Ground.gcOnly Go.Departure.lateStores }], guard := none }) (v := .slice (some ⟨g, 0, none⟩) KL c14) rfl (by kernel_rfl) (by kernel_rfl) (by kernel_rfl) (by kernel_rfl) (fun _ _ _ h => h) hS (Or.inl ⟨by rfl, fun w hSw => ?_⟩) ?_
          · go_split_ands
            go_simp
          try simp only [Act.put, List.setIfInBounds_toArray, List.set_cons_zero, List.set_cons_succ]
          refine wpAnyL_take0 (i := 3) (oi := { dst := some 109, op := Go.Op.move (Go.Operand.tmp 20), type := 3, pos := "law.go:276", after := #[{ on := 13, ground := Go.Ground.gcOnly Go.Departure.lateStores }], guard := none }) (v := .int .i64 j) rfl (by kernel_rfl) (by kernel_rfl) (by kernel_rfl) (by kernel_rfl) (fun _ _ _ h => h) hS (Or.inl ⟨by rfl, fun w hSw => ?_⟩) ?_
          · go_split_ands
            go_simp
          try simp only [Act.put, List.setIfInBounds_toArray, List.set_cons_zero, List.set_cons_succ]
          refine wpAnyL_take0 (i := 4) (oi := { dst := some 110, op := Go.Op.move (Go.Operand.tmp 14), type := 28, pos := "law.go:276", after := #[], guard := none }) (v := .slice (some ⟨g, 0, none⟩) KL c14) rfl (by kernel_rfl) (by kernel_rfl) (by kernel_rfl) (by kernel_rfl) (fun _ _ _ h => h) hS (Or.inl ⟨by rfl, fun w hSw => ?_⟩) ?_
          · go_split_ands
            go_simp
          try simp only [Act.put, List.setIfInBounds_toArray, List.set_cons_zero, List.set_cons_succ]
          refine wpAnyL_take0 (i := 5) (oi := { dst := some 111, op := Go.Op.move (Go.Operand.tmp 20), type := 3, pos := "law.go:276", after := #[], guard := none }) (v := .int .i64 j) rfl (by kernel_rfl) (by kernel_rfl) (by kernel_rfl) (by kernel_rfl) (fun _ _ _ h => h) hS (Or.inl ⟨by rfl, fun w hSw => ?_⟩) ?_
          · go_split_ands
            go_simp
          try simp only [Act.put, List.setIfInBounds_toArray, List.set_cons_zero, List.set_cons_succ]
          refine wpAnyL_take0 (i := 6) (oi := { dst := some 112, op := Go.Op.indexAddr 28 (Go.Operand.tmp 110) (Go.Operand.tmp 111), type := 0, pos := "law.go:276", after := #[{ on := 4, ground := Go.Ground.data }, { on := 5, ground := Go.Ground.data }], guard := none }) (v := .pointer (some ⟨g, j, none⟩)) rfl (by kernel_rfl) (by kernel_rfl) (by kernel_rfl) (by kernel_rfl) (fun _ _ _ h => h) hS (Or.inl ⟨by rfl, fun w hSw => ?_⟩) ?_
          · go_split_ands
            go_simp
          try simp only [Act.put, List.setIfInBounds_toArray, List.set_cons_zero, List.set_cons_succ]
          refine wpAnyL_take (i := 7) (oi := { dst := some 113, op := Go.Op.load 9 (Go.Operand.tmp 112), type := 9, pos := "law.go:276", after := #[{ on := 6, ground := Go.Ground.data }], guard := none }) (v := .string kj) rfl (by kernel_rfl) (by kernel_rfl) (by kernel_rfl) (by kernel_rfl) (fun _ _ _ h => h) hS (Or.inl ⟨by rfl, fun w hSw => ?_⟩) ?_
          · go_split_ands
            go_simp
          try simp only [Act.put, List.setIfInBounds_toArray, List.set_cons_zero, List.set_cons_succ]
          refine wpAnyL_take0 (i := 8) (oi := { dst := some 114, op := Go.Op.move (Go.Operand.tmp 14), type := 28, pos := "law.go:276", after := #[], guard := none }) (v := .slice (some ⟨g, 0, none⟩) KL c14) rfl (by kernel_rfl) (by kernel_rfl) (by kernel_rfl) (by kernel_rfl) (fun _ _ _ h => h) hS (Or.inl ⟨by rfl, fun w hSw => ?_⟩) ?_
          · go_split_ands
            go_simp
          try simp only [Act.put, List.setIfInBounds_toArray, List.set_cons_zero, List.set_cons_succ]
          refine wpAnyL_take0 (i := 9) (oi := { dst := some 115, op := Go.Op.move (Go.Operand.tmp 19), type := 3, pos := "law.go:276", after := #[], guard := none }) (v := .int .i64 j) rfl (by kernel_rfl) (by kernel_rfl) (by kernel_rfl) (by kernel_rfl) (fun _ _ _ h => h) hS (Or.inl ⟨by rfl, fun w hSw => ?_⟩) ?_
          · go_split_ands
            go_simp
          try simp only [Act.put, List.setIfInBounds_toArray, List.set_cons_zero, List.set_cons_succ]
          refine wpAnyL_take0 (i := 10) (oi := { dst := some 116, op := Go.Op.indexAddr 28 (Go.Operand.tmp 114) (Go.Operand.tmp 115), type := 0, pos := "law.go:276", after := #[{ on := 8, ground := Go.Ground.data }, { on := 9, ground := Go.Ground.data }], guard := none }) (v := .pointer (some ⟨g, j, none⟩)) rfl (by kernel_rfl) (by kernel_rfl) (by kernel_rfl) (by kernel_rfl) (fun _ _ _ h => h) hS (Or.inl ⟨by rfl, fun w hSw => ?_⟩) ?_
          · go_split_ands
            go_simp
          try simp only [Act.put, List.setIfInBounds_toArray, List.set_cons_zero, List.set_cons_succ]
          refine wpAnyL_take (i := 11) (oi := { dst := some 117, op := Go.Op.load 9 (Go.Operand.tmp 116), type := 9, pos := "law.go:276", after := #[{ on := 10, ground := Go.Ground.data }], guard := none }) (v := .string kj) rfl (by kernel_rfl) (by kernel_rfl) (by kernel_rfl) (by kernel_rfl) (fun _ _ _ h => h) hS (Or.inl ⟨by rfl, fun w hSw => ?_⟩) ?_
          · go_split_ands
            go_simp
          try simp only [Act.put, List.setIfInBounds_toArray, List.set_cons_zero, List.set_cons_succ]
          refine wpAnyL_ready (rs := [12]) (by kernel_rfl) (by simp) ?_
          refine AllReadyL.cons (o := { dst := some 118, op := Go.Op.indexAddr 28 (Go.Operand.tmp 106) (Go.Operand.tmp 107), type := 0, pos := "law.go:276", after := #[{ on := 0, ground := Go.Ground.data }, { on := 1, ground := Go.Ground.data }, { on := 0, ground := Go.Ground.phase }, { on := 1, ground := Go.Ground.phase }, { on := 2, ground := Go.Ground.textOnly Go.Departure.lateStores }, { on := 3, ground := Go.Ground.textOnly Go.Departure.lateStores }, { on := 4, ground := Go.Ground.phase }, { on := 5, ground := Go.Ground.phase }, { on := 6, ground := Go.Ground.phase }, { on := 7, ground := Go.Ground.phase }, { on := 8, ground := Go.Ground.textOnly Go.Departure.lateStores }, { on := 9, ground := Go.Ground.textOnly Go.Departure.lateStores }, { on := 10, ground := Go.Ground.textOnly Go.Departure.lateStoresUnsure }, { on := 11, ground := Go.Ground.phase }], guard := none }) rfl (fun K hK => ?_) AllReadyL.nil
          go_simp
          refine hK.out _ _ (fun _ => hS) ?_
          clear hK K
          try simp only [Act.put, List.setIfInBounds_toArray, List.set_cons_zero, List.set_cons_succ]
          refine wpAnyL_ready (rs := [13]) (by kernel_rfl) (by simp) ?_
          refine AllReadyL.cons (o := { dst := none, op := Go.Op.store 9 (Go.Operand.tmp 118) (Go.Operand.tmp 113), type := 0, pos := "law.go:276", after := #[{ on := 12, ground := Go.Ground.data }, { on := 7, ground := Go.Ground.data }, { on := 0, ground := Go.Ground.phase }, { on := 1, ground := Go.Ground.phase }, { on := 2, ground := Go.Ground.textOnly Go.Departure.lateStores }, { on := 3, ground := Go.Ground.textOnly Go.Departure.lateStores }, { on := 4, ground := Go.Ground.phase }, { on := 5, ground := Go.Ground.phase }, { on := 6, ground := Go.Ground.phase }, { on := 7, ground := Go.Ground.phase }, { on := 8, ground := Go.Ground.textOnly Go.Departure.lateStores }, { on := 9, ground := Go.Ground.textOnly Go.Departure.lateStores }, { on := 10, ground := Go.Ground.textOnly Go.Departure.lateStoresUnsure }, { on := 11, ground := Go.Ground.phase }], guard := none }) rfl (fun K hK => ?_) AllReadyL.nil
          go_simp
          refine hK.out _ _ (late_no (by kernel_rfl)) ?_
          clear hK K
          try simp only [Act.put, List.setIfInBounds_toArray, List.set_cons_zero, List.set_cons_succ]
          refine wpAnyL_ready (rs := [14]) (by kernel_rfl) (by simp) ?_
          refine AllReadyL.cons (o := { dst := some 119, op := Go.Op.indexAddr 28 (Go.Operand.tmp 108) (Go.Operand.tmp 109), type := 0, pos := "law.go:276", after := #[{ on := 2, ground := Go.Ground.data }, { on := 3, ground := Go.Ground.data }, { on := 0, ground := Go.Ground.phase }, { on := 1, ground := Go.Ground.phase }, { on := 2, ground := Go.Ground.phase }, { on := 3, ground := Go.Ground.phase }, { on := 4, ground := Go.Ground.phase }, { on := 5, ground := Go.Ground.phase }, { on := 6, ground := Go.Ground.phase }, { on := 7, ground := Go.Ground.phase }, { on := 8, ground := Go.Ground.phase }, { on := 9, ground := Go.Ground.phase }, { on := 10, ground := Go.Ground.phase }, { on := 11, ground := Go.Ground.phase }, { on := 12, ground := Go.Ground.phase }, { on := 13, ground := Go.Ground.phase }], guard := none }) rfl (fun K hK => ?_) AllReadyL.nil
          go_simp
          refine hK.out _ _ (late_no (by kernel_rfl)) ?_
          clear hK K
          try simp only [Act.put, List.setIfInBounds_toArray, List.set_cons_zero, List.set_cons_succ]
          refine wpAnyL_ready (rs := [15]) (by kernel_rfl) (by simp) ?_
          refine AllReadyL.cons (o := { dst := none, op := Go.Op.store 9 (Go.Operand.tmp 119) (Go.Operand.tmp 117), type := 0, pos := "law.go:276", after := #[{ on := 14, ground := Go.Ground.data }, { on := 11, ground := Go.Ground.data }, { on := 13, ground := Go.Ground.chain }, { on := 0, ground := Go.Ground.phase }, { on := 1, ground := Go.Ground.phase }, { on := 2, ground := Go.Ground.phase }, { on := 3, ground := Go.Ground.phase }, { on := 4, ground := Go.Ground.phase }, { on := 5, ground := Go.Ground.phase }, { on := 6, ground := Go.Ground.phase }, { on := 7, ground := Go.Ground.phase }, { on := 8, ground := Go.Ground.phase }, { on := 9, ground := Go.Ground.phase }, { on := 10, ground := Go.Ground.phase }, { on := 11, ground := Go.Ground.phase }, { on := 12, ground := Go.Ground.phase }, { on := 13, ground := Go.Ground.phase }], guard := none }) rfl (fun K hK => ?_) AllReadyL.nil
          go_simp
          refine hK.out _ _ (late_no (by kernel_rfl)) ?_
          clear hK K
          try simp only [Act.put, List.setIfInBounds_toArray, List.set_cons_zero, List.set_cons_succ]
          refine wpAnyL_done (by kernel_rfl) ?_ _

          have hdr := (Below.refl ((wr.setCell ⟨g, j, none⟩ (.string kj)).setCell ⟨g, j, none⟩ (.string kj)).heap.size ((wr.setCell ⟨g, j, none⟩ (.string kj)).setCell ⟨g, j, none⟩ (.string kj))).drew
          have fTn := HTN.out.below hdr
          have fTm := HTM.out.below hdr
          have fOx := HOX.out.below' hdr
          have fOk := HOK.out.below hdr
          have fH := HHH.out.below hdr
          have fB := HBB.out.drew
          clear hdr HTN HTM HOX HOK HHH HBB
          generalize ((wr.setCell ⟨g, j, none⟩ (.string kj)).setCell ⟨g, j, none⟩ (.string kj)).drew = W9 at *
          go_wp2_with fail
          refine ⟨⟨j + 1, K2, by omega, by go_num, hK2l, fun k => (HKM.out k).trans (hKm.out k), fOk, fTm, fTn, fOx, fH, fB⟩, by simp [intOf]; omega⟩

        · have hij' : ¬ (J = j) := fun e => hij e.symm
          clear hjj
          go_upto_region 27 with (fail)
          refine wp_region_late (S := fun w' => w'.cell? ⟨g, J, none⟩ = some (.string kj) ∧ w'.cell? ⟨g, j, none⟩ = some (.string ki)) (st := 13) (by kernel_rfl) ?_
          have hS : (fun w' : World => w'.cell? ⟨g, J, none⟩ = some (.string kj) ∧ w'.cell? ⟨g, j, none⟩ = some (.string ki)) wr.drew := ⟨zj, zi⟩
          refine wpAnyL_take0 (i := 0) (oi := { dst := some 106, op := Go.Op.move (Go.Operand.tmp 14), type := 28, pos := "law.go:276", after := #[], guard := none }) (v := .slice (some ⟨g, 0, none⟩) KL c14) rfl (by kernel_rfl) (by kernel_rfl) (by kernel_rfl) (by kernel_rfl) (fun _ _ _ h => h) hS (Or.inl ⟨by rfl, fun w hSw => ?_⟩) ?_
          · go_split_ands
            go_simp
          try simp only [Act.put, List.setIfInBounds_toArray, List.set_cons_zero, List.set_cons_succ]
          refine wpAnyL_take0 (i := 1) (oi := { dst := some 107, op := Go.Op.move (Go.Operand.tmp 19), type := 3, pos := "law.go:276", after := #[], guard := none }) (v := .int .i64 j) rfl (by kernel_rfl) (by kernel_rfl) (by kernel_rfl) (by kernel_rfl) (fun _ _ _ h => h) hS (Or.inl ⟨by rfl, fun w hSw => ?_⟩) ?_
          · go_split_ands
            go_simp
          try simp only [Act.put, List.setIfInBounds_toArray, List.set_cons_zero, List.set_cons_succ]
          refine wpAnyL_take0 (i := 2) (oi := { dst := some 108, op := Go.Op.move (Go.Operand.tmp 14), type := 28, pos := "law.go:276", after := #[{ on := 13, ground := Go.Ground.gcOnly Go.Departure.lateStores }], guard := none }) (v := .slice (some ⟨g, 0, none⟩) KL c14) rfl (by kernel_rfl) (by kernel_rfl) (by kernel_rfl) (by kernel_rfl) (fun _ _ _ h => h) hS (Or.inl ⟨by rfl, fun w hSw => ?_⟩) ?_
          · go_split_ands
            go_simp
          try simp only [Act.put, List.setIfInBounds_toArray, List.set_cons_zero, List.set_cons_succ]
          refine wpAnyL_take0 (i := 3) (oi := { dst := some 109, op := Go.Op.move (Go.Operand.tmp 20), type := 3, pos := "law.go:276", after := #[{ on := 13, ground := Go.Ground.gcOnly Go.Departure.lateStores }], guard := none }) (v := .int .i64 J) rfl (by kernel_rfl) (by kernel_rfl) (by kernel_rfl) (by kernel_rfl) (fun _ _ _ h => h) hS (Or.inl ⟨by rfl, fun w hSw => ?_⟩) ?_
          · go_split_ands
            go_simp
          try simp only [Act.put, List.setIfInBounds_toArray, List.set_cons_zero, List.set_cons_succ]
          refine wpAnyL_take0 (i := 4) (oi := { dst := some 110, op := Go.Op.move (Go.Operand.tmp 14), type := 28, pos := "law.go:276", after := #[], guard := none }) (v := .slice (some ⟨g, 0, none⟩) KL c14) rfl (by kernel_rfl) (by kernel_rfl) (by kernel_rfl) (by kernel_rfl) (fun _ _ _ h => h) hS (Or.inl ⟨by rfl, fun w hSw => ?_⟩) ?_
          · go_split_ands
            go_simp
          try simp only [Act.put, List.setIfInBounds_toArray, List.set_cons_zero, List.set_cons_succ]
          refine wpAnyL_take0 (i := 5) (oi := { dst := some 111, op := Go.Op.move (Go.Operand.tmp 20), type := 3, pos := "law.go:276", after := #[], guard := none }) (v := .int .i64 J) rfl (by kernel_rfl) (by kernel_rfl) (by kernel_rfl) (by kernel_rfl) (fun _ _ _ h => h) hS (Or.inl ⟨by rfl, fun w hSw => ?_⟩) ?_
          · go_split_ands
            go_simp
          try simp only [Act.put, List.setIfInBounds_toArray, List.set_cons_zero, List.set_cons_succ]
          refine wpAnyL_take0 (i := 6) (oi := { dst := some 112, op := Go.Op.indexAddr 28 (Go.Operand.tmp 110) (Go.Operand.tmp 111), type := 0, pos := "law.go:276", after := #[{ on := 4, ground := Go.Ground.data }, { on := 5, ground := Go.Ground.data }], guard := none }) (v := .pointer (some ⟨g, J, none⟩)) rfl (by kernel_rfl) (by kernel_rfl) (by kernel_rfl) (by kernel_rfl) (fun _ _ _ h => h) hS (Or.inl ⟨by rfl, fun w hSw => ?_⟩) ?_
          · go_split_ands
            go_simp
          try simp only [Act.put, List.setIfInBounds_toArray, List.set_cons_zero, List.set_cons_succ]
          refine wpAnyL_take (i := 7) (oi := { dst := some 113, op := Go.Op.load 9 (Go.Operand.tmp 112), type := 9, pos := "law.go:276", after := #[{ on := 6, ground := Go.Ground.data }], guard := none }) (v := .string kj) rfl (by kernel_rfl) (by kernel_rfl) (by kernel_rfl) (by kernel_rfl) (fun _ _ _ h => h) hS (Or.inl ⟨by rfl, fun w hSw => ?_⟩) ?_
          · go_split_ands
            go_simp
          try simp only [Act.put, List.setIfInBounds_toArray, List.set_cons_zero, List.set_cons_succ]
          refine wpAnyL_take0 (i := 8) (oi := { dst := some 114, op := Go.Op.move (Go.Operand.tmp 14), type := 28, pos := "law.go:276", after := #[], guard := none }) (v := .slice (some ⟨g, 0, none⟩) KL c14) rfl (by kernel_rfl) (by kernel_rfl) (by kernel_rfl) (by kernel_rfl) (fun _ _ _ h => h) hS (Or.inl ⟨by rfl, fun w hSw => ?_⟩) ?_
          · go_split_ands
            go_simp
          try simp only [Act.put, List.setIfInBounds_toArray, List.set_cons_zero, List.set_cons_succ]
          refine wpAnyL_take0 (i := 9) (oi := { dst := some 115, op := Go.Op.move (Go.Operand.tmp 19), type := 3, pos := "law.go:276", after := #[], guard := none }) (v := .int .i64 j) rfl (by kernel_rfl) (by kernel_rfl) (by kernel_rfl) (by kernel_rfl) (fun _ _ _ h => h) hS (Or.inl ⟨by rfl, fun w hSw => ?_⟩) ?_
          · go_split_ands
            go_simp
          try simp only [Act.put, List.setIfInBounds_toArray, List.set_cons_zero, List.set_cons_succ]
          refine wpAnyL_take0 (i := 10) (oi := { dst := some 116, op := Go.Op.indexAddr 28 (Go.Operand.tmp 114) (Go.Operand.tmp 115), type := 0, pos := "law.go:276", after := #[{ on := 8, ground := Go.Ground.data }, { on := 9, ground := Go.Ground.data }], guard := none }) (v := .pointer (some ⟨g, j, none⟩)) rfl (by kernel_rfl) (by kernel_rfl) (by kernel_rfl) (by kernel_rfl) (fun _ _ _ h => h) hS (Or.inl ⟨by rfl, fun w hSw => ?_⟩) ?_
          · go_split_ands
            go_simp
          try simp only [Act.put, List.setIfInBounds_toArray, List.set_cons_zero, List.set_cons_succ]
          refine wpAnyL_take (i := 11) (oi := { dst := some 117, op := Go.Op.load 9 (Go.Operand.tmp 116), type := 9, pos := "law.go:276", after := #[{ on := 10, ground := Go.Ground.data }], guard := none }) (v := .string ki) rfl (by kernel_rfl) (by kernel_rfl) (by kernel_rfl) (by kernel_rfl) (fun _ _ _ h => h) hS (Or.inl ⟨by rfl, fun w hSw => ?_⟩) ?_
          · go_split_ands
            go_simp
          try simp only [Act.put, List.setIfInBounds_toArray, List.set_cons_zero, List.set_cons_succ]
          refine wpAnyL_ready (rs := [12]) (by kernel_rfl) (by simp) ?_
          refine AllReadyL.cons (o := { dst := some 118, op := Go.Op.indexAddr 28 (Go.Operand.tmp 106) (Go.Operand.tmp 107), type := 0, pos := "law.go:276", after := #[{ on := 0, ground := Go.Ground.data }, { on := 1, ground := Go.Ground.data }, { on := 0, ground := Go.Ground.phase }, { on := 1, ground := Go.Ground.phase }, { on := 2, ground := Go.Ground.textOnly Go.Departure.lateStores }, { on := 3, ground := Go.Ground.textOnly Go.Departure.lateStores }, { on := 4, ground := Go.Ground.phase }, { on := 5, ground := Go.Ground.phase }, { on := 6, ground := Go.Ground.phase }, { on := 7, ground := Go.Ground.phase }, { on := 8, ground := Go.Ground.textOnly Go.Departure.lateStores }, { on := 9, ground := Go.Ground.textOnly Go.Departure.lateStores }, { on := 10, ground := Go.Ground.textOnly Go.Departure.lateStoresUnsure }, { on := 11, ground := Go.Ground.phase }], guard := none }) rfl (fun K hK => ?_) AllReadyL.nil
          go_simp
          refine hK.out _ _ (fun _ => hS) ?_
          clear hK K
          try simp only [Act.put, List.setIfInBounds_toArray, List.set_cons_zero, List.set_cons_succ]
          refine wpAnyL_ready (rs := [13]) (by kernel_rfl) (by simp) ?_
          refine AllReadyL.cons (o := { dst := none, op := Go.Op.store 9 (Go.Operand.tmp 118) (Go.Operand.tmp 113), type := 0, pos := "law.go:276", after := #[{ on := 12, ground := Go.Ground.data }, { on := 7, ground := Go.Ground.data }, { on := 0, ground := Go.Ground.phase }, { on := 1, ground := Go.Ground.phase }, { on := 2, ground := Go.Ground.textOnly Go.Departure.lateStores }, { on := 3, ground := Go.Ground.textOnly Go.Departure.lateStores }, { on := 4, ground := Go.Ground.phase }, { on := 5, ground := Go.Ground.phase }, { on := 6, ground := Go.Ground.phase }, { on := 7, ground := Go.Ground.phase }, { on := 8, ground := Go.Ground.textOnly Go.Departure.lateStores }, { on := 9, ground := Go.Ground.textOnly Go.Departure.lateStores }, { on := 10, ground := Go.Ground.textOnly Go.Departure.lateStoresUnsure }, { on := 11, ground := Go.Ground.phase }], guard := none }) rfl (fun K hK => ?_) AllReadyL.nil
          go_simp
          refine hK.out _ _ (late_no (by kernel_rfl)) ?_
          clear hK K
          try simp only [Act.put, List.setIfInBounds_toArray, List.set_cons_zero, List.set_cons_succ]
          refine wpAnyL_ready (rs := [14]) (by kernel_rfl) (by simp) ?_
          refine AllReadyL.cons (o := { dst := some 119, op := Go.Op.indexAddr 28 (Go.Operand.tmp 108) (Go.Operand.tmp 109), type := 0, pos := "law.go:276", after := #[{ on := 2, ground := Go.Ground.data }, { on := 3, ground := Go.Ground.data }, { on := 0, ground := Go.Ground.phase }, { on := 1, ground := Go.Ground.phase }, { on := 2, ground := Go.Ground.phase }, { on := 3, ground := Go.Ground.phase }, { on := 4, ground := Go.Ground.phase }, { on := 5, ground := Go.Ground.phase }, { on := 6, ground := Go.Ground.phase }, { on := 7, ground := Go.Ground.phase }, { on := 8, ground := Go.Ground.phase }, { on := 9, ground := Go.Ground.phase }, { on := 10, ground := Go.Ground.phase }, { on := 11, ground := Go.Ground.phase }, { on := 12, ground := Go.Ground.phase }, { on := 13, ground := Go.Ground.phase }], guard := none }) rfl (fun K hK => ?_) AllReadyL.nil
          go_simp
          refine hK.out _ _ (late_no (by kernel_rfl)) ?_
          clear hK K
          try simp only [Act.put, List.setIfInBounds_toArray, List.set_cons_zero, List.set_cons_succ]
          refine wpAnyL_ready (rs := [15]) (by kernel_rfl) (by simp) ?_
          refine AllReadyL.cons (o := { dst := none, op := Go.Op.store 9 (Go.Operand.tmp 119) (Go.Operand.tmp 117), type := 0, pos := "law.go:276", after := #[{ on := 14, ground := Go.Ground.data }, { on := 11, ground := Go.Ground.data }, { on := 13, ground := Go.Ground.chain }, { on := 0, ground := Go.Ground.phase }, { on := 1, ground := Go.Ground.phase }, { on := 2, ground := Go.Ground.phase }, { on := 3, ground := Go.Ground.phase }, { on := 4, ground := Go.Ground.phase }, { on := 5, ground := Go.Ground.phase }, { on := 6, ground := Go.Ground.phase }, { on := 7, ground := Go.Ground.phase }, { on := 8, ground := Go.Ground.phase }, { on := 9, ground := Go.Ground.phase }, { on := 10, ground := Go.Ground.phase }, { on := 11, ground := Go.Ground.phase }, { on := 12, ground := Go.Ground.phase }, { on := 13, ground := Go.Ground.phase }], guard := none }) rfl (fun K hK => ?_) AllReadyL.nil
          go_simp
          refine hK.out _ _ (late_no (by kernel_rfl)) ?_
          clear hK K
          try simp only [Act.put, List.setIfInBounds_toArray, List.set_cons_zero, List.set_cons_succ]
          refine wpAnyL_done (by kernel_rfl) ?_ _

          have hdr := (Below.refl ((wr.setCell ⟨g, j, none⟩ (.string kj)).setCell ⟨g, J, none⟩ (.string ki)).heap.size ((wr.setCell ⟨g, j, none⟩ (.string kj)).setCell ⟨g, J, none⟩ (.string ki))).drew
          have fTn := HTN.out.below hdr
          have fTm := HTM.out.below hdr
          have fOx := HOX.out.below' hdr
          have fOk := HOK.out.below hdr
          have fH := HHH.out.below hdr
          have fB := HBB.out.drew
          clear hdr HTN HTM HOX HOK HHH HBB
          generalize ((wr.setCell ⟨g, j, none⟩ (.string kj)).setCell ⟨g, J, none⟩ (.string ki)).drew = W9 at *
          go_wp2_with fail
          refine ⟨⟨j + 1, K2, by omega, by go_num, hK2l, fun k => (HKM.out k).trans (hKm.out k), fOk, fTm, fTn, fOx, fH, fB⟩, by simp [intOf]; omega⟩

      · have L3 : ¬ ((j : Int) < (len3 : Int)) := by omega
        clear HR3
        go_wp2_with fail
        exact ⟨⟨j + 1, K', by omega, by go_num, hK'l, hKm.out, hOk, hTm, hTn, hOx, hH, hB⟩, by simp [intOf]; omega⟩
    · obtain rfl : j = KL := by omega
      have G : ¬ ((j : Int) < (j : Int)) := by omega
      have HFF := Lib.hid (HF.out wr K' hK'l hKm.out hB hTn hOx hH hTm hOk)
      clear HF hTn hOx hH hTm hOk HR3
      repeat (first | exact HFF.out _ _ _ _ _ _ _ _ _ _ _ _ _ _ _ _ _ _ _ _ _ _ _ _ _ _ _ _ _ _ _ _ _ _ _ _ _ _ _ _ _ _ _ _ _ _ _ _ _ _ _ _ _ _ _ _ _ _ _ _ _ _ _ _ _ _ _ _ _ _ _ _ _ _ _ _ _ _ _ _ _ _ _ _ _ _ _ _ _ _ _ _ _ _ _ _ _ _ _ _ _ _ _ _ _ _ _ _ _ _ _ _ _ _ _ _ _ _ _ _ _ _ _ _ _ _ _ _ _ _ _ _ _ _ _ _ _ _ _ _ | go_step)
end Go.Proofs.YtfmbikmpobieoaaGreat.champShrinks
