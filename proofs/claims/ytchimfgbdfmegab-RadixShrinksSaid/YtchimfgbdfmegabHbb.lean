/- Rows of strings. -/
import Derived.Test.YtchimfgbdfmegabHba
import Derived.Test.YtchimfgbdfmegabHap
import Derived.BigQuiet
import Derived.Deep.RegionHeld3
namespace Go.Proofs.Ytchimfgbdfmegab
open Go.RowKit Go.Lib
set_option linter.unusedVariables false
set_option linter.unnecessarySimpa false
set_option linter.unusedSimpArgs false
set_option linter.unnecessarySimpa false
set_option maxRecDepth 100000
def scs (ks : List ByteArray) : List Value := ks.map Value.string
def OwnS (base : Nat) (w : World) (v : Value) (ks : List ByteArray) : Prop := w.ownsRow base 9 1 v ks.length (scs ks)
theorem OwnS.below {base : Nat} {w w' : World} {v : Value} {ks : List ByteArray} (h : OwnS base w v ks) (hb : Below w.heap.size w w') : OwnS base w' v ks := own_keep h (Keep.of_below (X := []) hb) (by simp)
theorem OwnS.nil (base : Nat) (w : World) : OwnS base w (.slice none 0 0) [] := ⟨rfl, .inl ⟨rfl, rfl⟩⟩
theorem info9 : (Try.prog.info? 9).map (fun i => (i.zero, i.size, i.bytes)) = some (some (.string ⟨#[]⟩), 1, 16) := by kernel_rfl
theorem zsz_str : (Value.cells (.string ⟨#[]⟩)).size = 1 := by simp [Value.cells]
theorem OwnS.at {base : Nat} {w : World} {v : Value} {ks : List ByteArray} (h : OwnS base w v ks) (j : Nat) (hj : j < ks.length) : ∃ g cap, v = .slice (some ⟨g, 0, none⟩) ks.length cap ∧ w.cell? ⟨g, j, none⟩ = some (.string ks[j]) ∧ w.frozen? ⟨g, j, none⟩ = false := by
  obtain ⟨g, cap, cur, e, _, hB, -⟩ := own_blk h (by omega)
  subst e
  have hh : w.ownsRow base 9 1 (.slice (some ⟨g, 0, none⟩) ks.length cap) ks.length (scs ks) := h
  refine ⟨g, cap, rfl, ?_, Blk.frozen hB j⟩
  rw [hh.cellAt _ (by omega)]
  simp [scs, hj]
theorem OwnS.form {base : Nat} {w : World} {v : Value} {ks : List ByteArray} (h : OwnS base w v ks) : ∃ A c, v = .slice A ks.length c := own_formN h
theorem OwnS.swap {base g cap : Nat} {w : World} {ks : List ByteArray} (h : OwnS base w (.slice (some ⟨g, 0, none⟩) ks.length cap) ks) (i j : Nat) (hi : i < ks.length) (hj : j < ks.length) :
    OwnS base ((w.setCell ⟨g, i, none⟩ (.string ks[j])).setCell ⟨g, j, none⟩ (.string ks[i])) (.slice (some ⟨g, 0, none⟩) ks.length cap) ((ks.set i ks[j]).set j ks[i]) := by
  have h' : w.ownsRow base 9 1 (.slice (some ⟨g, 0, none⟩) ks.length cap) ks.length (scs ks) := h
  have h1 := ((h'.stored i (.string ks[j])).1.stored j (.string ks[i])).1
  unfold OwnS
  rw [List.length_set, List.length_set]
  have e : scs ((ks.set i ks[j]).set j ks[i]) = ((scs ks).set i (.string ks[j])).set j (.string ks[i]) := by
    unfold scs
    rw [List.map_set, List.map_set]
  rw [e]; exact h1
theorem Keep.two (w : World) (g i j : Nat) (u v : Value) : Keep [g] w ((w.setCell ⟨g, i, none⟩ u).setCell ⟨g, j, none⟩ v) := ((Keep.refl [g] w).setCell (p := ⟨g, i, none⟩) (by simp) u).setCell (p := ⟨g, j, none⟩) (by simp) v
/-- the code from a region on -/
def startsAt (k : Nat) : Code → Bool
  | .region i _ _ => i == k
  | .seq a _ => startsAt k a
  | _ => false
def fromRegion (k : Nat) : Code → Option Code
  | .seq a b => if startsAt k a then some (.seq a b) else fromRegion k b
  | _ => none
theorem ArgP.len_leR {w : World} {a : Option Addr} {len cap : Nat} {ps : List Pr} (h : ArgP w a len cap ps) : len ≤ maxLen := by
  rcases h with ⟨_, h, _⟩ | ⟨x, rfl, hl, hm, hz, hcell⟩
  · rw [h]; exact Nat.zero_le _
  · omega
end Go.Proofs.Ytchimfgbdfmegab
/- RadixShrinks, part by part. -/
namespace Go.Proofs.Ytchimfgbdfmegab.radixShrinks
open Go.ChangeShapes Go.WideShapes Go.RowKit Go.Lib
set_option linter.unusedVariables false
set_option linter.unnecessarySimpa false
set_option linter.unusedSimpArgs false
set_option linter.unnecessarySimpa false
set_option maxRecDepth 100000
/-- what stays from the first loop on -/
structure SB (w0 w : World) (bn : Nat) (X : List Pr) (A8 : Option Addr) (c8 : Nat) : Prop where
  hB : Below w0.heap.size w0 w
  hTn : PW w bn X
  hOx : OwnR w0.heap.size w (.slice A8 X.length c8) X
theorem SB.below {w0 w w' : World} {bn : Nat} {X : List Pr} {A8 : Option Addr} {c8 : Nat} (h : SB w0 w bn X A8 c8) (hb : Below w.heap.size w w') : SB w0 w' bn X A8 c8 :=
  ⟨h.hB.trans (hb.mono h.hB.size), h.hTn.below hb, h.hOx.below' hb⟩
theorem _root_.Go.Proofs.Ytchimfgbdfmegab.PW.apart9 {w w' : World} {b : Nat} {ps : List Pr} (h : PW w b ps) {g : Nat} {cs : Array Value} (hb : Blk w g 9 cs) (hk : Keep [g] w w') : PW w' b ps :=
  ((h.tx (X' := fun x => x = g) fun x hx => .inr ⟨9, cs, by rw [hx]; exact hb, by decide, by decide⟩).keep hk (by simp)).pw
theorem _root_.Go.Proofs.Ytchimfgbdfmegab.OwnR.apart9 {base : Nat} {w w' : World} {v : Value} {ps : List Pr} (h : OwnR base w v ps) {g : Nat} {cs : Array Value} (hb : Blk w g 9 cs) (hk : Keep [g] w w') : OwnR base w' v ps :=
  own_keep h hk fun x hx e => by
    simp at hx
    subst hx
    obtain ⟨cur, hc⟩ := own_cells h x e
    unfold Blk at hb
    rw [hc] at hb
    simp at hb
theorem shr_add {X Y : List Pr} {K : List ByteArray} {q : Pr} (hr : RisesL X) (h : ∀ p, p ∈ X ↔ p ∈ Y ∧ p.1 ∉ K) (hg : getR X q.1 = none) (p : Pr) : p ∈ X ↔ p ∈ putK Y q ∧ p.1 ∉ K ++ [q.1] := by
  have hn : ∀ x ∈ X, x.1 ≠ q.1 := fun x hx e => getR_none hr hg x.2 (by rw [← e]; exact hx)
  rw [put_sets, List.mem_append, List.mem_singleton, not_or]
  constructor
  · intro hp
    have h1 := (h p).1 hp
    exact ⟨.inr ⟨h1.1, hn p hp⟩, h1.2, hn p hp⟩
  · rintro ⟨h1 | h1, h2, h3⟩
    · exact absurd (by rw [h1]) h3
    · exact (h p).2 ⟨h1.1, h2⟩
noncomputable def shr34 : Code := (Try.f4.body.bind (fromRegion 34)).getD .skip
set_option maxHeartbeats 8000000 in
theorem shr34_any (post : Ending → World → Prop) (w0 w : World) (bn bm : Nat) (X : List Pr) (A8 : Option Addr) (c8 : Nat) (hS : SB w0 w bn X A8 c8) (hlX : X.length ≤ 25) (hpost : ∀ w', Below w0.heap.size w0 w' → post (.returned (.bool true)) w') (hTm : PW w bm X) (x0 x1 x2 x3 x4 x5 x6 x9 x10 x12 x13 x14 x15 x16 x17 x18 x19 x20 x21 x22 x23 x24 x25 x26 x27 x28 x29 x30 x31 x32 x33 x34 x35 x36 x37 x38 x39 x40 x41 x42 x43 x44 x45 x46 x47 x48 x49 x50 x51 x52 x53 x54 x55 x56 x57 x58 x59 x60 x61 x62 x63 x64 x65 x66 x67 x68 x69 x70 x71 x72 x73 x74 x75 x76 x77 x78 x79 x80 x81 x82 x83 x84 x85 x86 x87 x88 x89 x90 x91 x92 x93 x94 x95 x96 x97 x98 x99 x100 x101 x102 x103 x104 x105 x106 x107 x108 x109 x110 x111 x112 x113 x114 x115 x116 x117 x118 x119 x120 x121 x122 x123 x124 x125 x126 x127 x128 x129 x130 x131 x132 x133 x134 x135 x136 x137 : Value) :
    Code.wp Try.prog shr34 (bodyPost Try.prog Try.f4 post) ⟨#[x0, x1, x2, x3, x4, x5, x6, .pointer (some ⟨bn, 0, none⟩), .slice A8 X.length c8, x9, x10, .pointer (some ⟨bm, 0, none⟩), x12, x13, x14, x15, x16, x17, x18, x19, x20, x21, x22, x23, x24, x25, x26, x27, x28, x29, x30, x31, x32, x33, x34, x35, x36, x37, x38, x39, x40, x41, x42, x43, x44, x45, x46, x47, x48, x49, x50, x51, x52, x53, x54, x55, x56, x57, x58, x59, x60, x61, x62, x63, x64, x65, x66, x67, x68, x69, x70, x71, x72, x73, x74, x75, x76, x77, x78, x79, x80, x81, x82, x83, x84, x85, x86, x87, x88, x89, x90, x91, x92, x93, x94, x95, x96, x97, x98, x99, x100, x101, x102, x103, x104, x105, x106, x107, x108, x109, x110, x111, x112, x113, x114, x115, x116, x117, x118, x119, x120, x121, x122, x123, x124, x125, x126, x127, x128, x129, x130, x131, x132, x133, x134, x135, x136, x137], []⟩ w := by
  obtain ⟨A', c', e', hR, hc⟩ := hS.hOx.rdc
  simp only [Value.slice.injEq, true_and] at e'
  obtain ⟨rfl, rfl⟩ := e'
  have k1 := tree_list hTm A8 c8 (by omega) hR hc
  have HS := Lib.hid hS
  have HR := Lib.hid hR
  have HP := Lib.hid hpost
  clear hS hTm hpost hR
  simp only [at0] at k1
  simp only []
  conv => arg 2; whnf
  go_wp2_with fail
  refine k1.mono ?_
  rintro e w1 ⟨rfl, hB1⟩
  have HS := Lib.hid (HS.out.below hB1)
  have k2 := tree_list HS.out.hTn A8 c8 (by omega) (HR.out.below hB1) hc
  clear k1 hB1
  simp only [at0] at k2
  go_wp2_with fail
  refine k2.mono ?_
  rintro e w2 ⟨rfl, hB2⟩
  go_wp2_with fail
  exact HP.out _ (HS.out.below hB2).hB
noncomputable def shr29 : Code := (Try.f4.body.bind (fromRegion 29)).getD .skip
set_option maxHeartbeats 8000000 in
theorem shr29_any (post : Ending → World → Prop) (w0 w : World) (bn bm : Nat) (X Y : List Pr) (K : List ByteArray) (A8 : Option Addr) (c8 : Nat) (hS : SB w0 w bn X A8 c8) (hlX : X.length ≤ 25) (hpost : ∀ w', Below w0.heap.size w0 w' → post (.returned (.bool true)) w') (hTm : PW w bm Y) (hlY : Y.length ≤ 60) (hzK : ∀ k ∈ K, k.size ≤ 40) (hlK : K.length ≤ 20) (hXY : ∀ p, p ∈ X ↔ p ∈ Y ∧ p.1 ∉ K) (A12 : Option Addr) (c12 : Nat) (hOk : OwnS w0.heap.size w (.slice A12 K.length c12) K) (x0 x1 x2 x3 x4 x5 x6 x9 x10 x13 x14 x15 x16 x17 x18 x19 x20 x21 x22 x23 x24 x25 x26 x27 x28 x29 x30 x31 x32 x33 x34 x35 x36 x37 x38 x39 x40 x41 x42 x43 x44 x45 x46 x47 x48 x49 x50 x51 x52 x53 x54 x55 x56 x57 x58 x59 x60 x61 x62 x63 x64 x65 x66 x67 x68 x69 x70 x71 x72 x73 x74 x75 x76 x77 x78 x79 x80 x81 x82 x83 x84 x85 x86 x87 x88 x89 x90 x91 x92 x93 x94 x95 x96 x97 x98 x99 x100 x101 x102 x103 x104 x105 x106 x107 x108 x109 x110 x111 x112 x113 x114 x115 x116 x117 x118 x119 x120 x121 x122 x123 x124 x125 x126 x127 x128 x129 x130 x131 x132 x133 x134 x135 x136 x137 : Value) :
    Code.wp Try.prog shr29 (bodyPost Try.prog Try.f4 post) ⟨#[x0, x1, x2, x3, x4, x5, x6, .pointer (some ⟨bn, 0, none⟩), .slice A8 X.length c8, x9, x10, .pointer (some ⟨bm, 0, none⟩), .slice A12 K.length c12, x13, x14, x15, x16, x17, x18, x19, x20, x21, x22, x23, x24, x25, x26, x27, x28, x29, x30, x31, x32, x33, x34, x35, x36, x37, x38, x39, x40, x41, x42, x43, x44, x45, x46, x47, x48, x49, x50, x51, x52, x53, x54, x55, x56, x57, x58, x59, x60, x61, x62, x63, x64, x65, x66, x67, x68, x69, x70, x71, x72, x73, x74, x75, x76, x77, x78, x79, x80, x81, x82, x83, x84, x85, x86, x87, x88, x89, x90, x91, x92, x93, x94, x95, x96, x97, x98, x99, x100, x101, x102, x103, x104, x105, x106, x107, x108, x109, x110, x111, x112, x113, x114, x115, x116, x117, x118, x119, x120, x121, x122, x123, x124, x125, x126, x127, x128, x129, x130, x131, x132, x133, x134, x135, x136, x137], []⟩ w := by
  have HF := Lib.hid (fun wr bm hS hTm => shr34_any post w0 wr bn bm X A8 c8 hS hlX hpost hTm)
  have HXY := Lib.hid hXY
  clear hpost hXY
  simp only []
  conv => arg 2; whnf
  go_wp2_with fail
  go_loopw [11, 119] (fun v11 vi wr => ∃ (j bz : Nat) (Z : List Pr), j ≤ K.length ∧ vi = .int .i64 j ∧ v11 = .pointer (some ⟨bz, 0, none⟩) ∧ Z.length ≤ 60 ∧ Hid (∀ p, p ∈ Z ↔ p ∈ Y ∧ p.1 ∉ K.take j) ∧ PW wr bz Z ∧ OwnS w0.heap.size wr (.slice A12 K.length c12) K ∧ SB w0 wr bn X A8 c8) (fun v11 vi wr => K.length - (RowKit.intOf vi).toNat)
  case atStart => exact ⟨0, bm, Y, by omega, rfl, rfl, hlY, Lib.hid (fun p => by simp), hTm, hOk, hS⟩
  case round =>
    clear hTm hOk hS hlY
    obtain ⟨j, bz, Z, hj, rfl, rfl, hlZ, HZ, hTm, hOk, hS⟩ := hrel
    by_cases hlt : j < K.length
    · obtain ⟨g, cap, e, c0, -⟩ := hOk.at j hlt
      simp only [Value.slice.injEq, true_and] at e
      obtain ⟨rfl, rfl⟩ := e
      have L1 : (j : Int) < (K.length : Int) := by omega
      have L2 : IntKind.i64.wrap ((j : Int) + 1) = ((j + 1 : Nat) : Int) := by rw [IntWalk.i64_in _ (by omega)]; omega
      have hks := hzK _ (List.getElem_mem hlt)
      have HTK := Lib.hid (List.take_succ_eq_append_getElem hlt)
      generalize K[j] = k at *
      have kd := drop_list hTm (.pointer none) k (.inl rfl) hks
      simp only [at0] at kd
      go_wp2_with fail
      refine kd.mono ?_
      rintro e w1 ⟨b1, rfl, -, hT1, hB1⟩
      have hOk := hOk.below hB1
      have hS := hS.below hB1
      clear kd hB1 c0 hTm
      generalize (getR Z k).isSome = gb at *
      go_wp2_with fail
      refine ⟨⟨j + 1, b1, dropK Z k, by omega, by go_num, rfl, Nat.le_trans (List.length_filter_le _ _) hlZ, Lib.hid (fun p => ?_), hT1, hOk, hS⟩, by simp [RowKit.intOf]; omega⟩
      rw [drop_key_mem, HZ.out p, HTK.out]
      simp only [List.mem_append, List.mem_singleton, not_or]
      exact ⟨fun h => ⟨h.1.1, h.1.2, h.2⟩, fun h => ⟨⟨h.1, h.2.1⟩, h.2.2⟩⟩
    · obtain rfl : j = K.length := by omega
      have e : Z = X := rises_ext hTm.rises hS.hTn.rises fun p => (HZ.out p).trans (by rw [List.take_length]; exact (HXY.out p).symm)
      subst e
      have G : ¬ ((K.length : Int) < (K.length : Int)) := by omega
      have HFF := Lib.hid (HF.out wr bz hS hTm)
      clear HF hS hTm hOk
      repeat (first | exact HFF.out _ _ _ _ _ _ _ _ _ _ _ _ _ _ _ _ _ _ _ _ _ _ _ _ _ _ _ _ _ _ _ _ _ _ _ _ _ _ _ _ _ _ _ _ _ _ _ _ _ _ _ _ _ _ _ _ _ _ _ _ _ _ _ _ _ _ _ _ _ _ _ _ _ _ _ _ _ _ _ _ _ _ _ _ _ _ _ _ _ _ _ _ _ _ _ _ _ _ _ _ _ _ _ _ _ _ _ _ _ _ _ _ _ _ _ _ _ _ _ _ _ _ _ _ _ _ _ _ _ _ _ _ _ _ _ | go_step)
end Go.Proofs.Ytchimfgbdfmegab.radixShrinks
/- RadixShrinks, part by part. -/
namespace Go.Proofs.Ytchimfgbdfmegab.radixShrinks
open Go.ChangeShapes Go.WideShapes Go.RowKit Go.Lib
set_option linter.unusedVariables false
set_option linter.unnecessarySimpa false
set_option linter.unusedSimpArgs false
set_option linter.unnecessarySimpa false
set_option maxRecDepth 100000
noncomputable def shr22 : Code := (Try.f4.body.bind (fromRegion 22)).getD .skip
set_option maxHeartbeats 16000000 in
theorem shr22_any (post : Ending → World → Prop) (w0 w : World) (a3 : Option Addr) (len3 cap3 : Nat) (zs : List Int) (hrow : IsRow .u8 w0 a3 len3 cap3 zs) (bn bm : Nat) (X Y : List Pr) (K : List ByteArray) (A8 : Option Addr) (c8 : Nat) (v12 : Value) (hSB : SB w0 w bn X A8 c8) (hlX : X.length ≤ 25) (hpost : ∀ w', Below w0.heap.size w0 w' → post (.returned (.bool true)) w') (hTm : PW w bm Y) (hlY : Y.length ≤ 60) (hzK : ∀ k ∈ K, k.size ≤ 40) (hlK : K.length ≤ 20) (hXY : ∀ p, p ∈ X ↔ p ∈ Y ∧ p.1 ∉ K) (hOk : OwnS w0.heap.size w v12 K) (x0 x1 x3 x4 x5 x6 x9 x10 x13 x14 x15 x16 x17 x18 x19 x20 x21 x22 x23 x24 x25 x26 x27 x28 x29 x30 x31 x32 x33 x34 x35 x36 x37 x38 x39 x40 x41 x42 x43 x44 x45 x46 x47 x48 x49 x50 x51 x52 x53 x54 x55 x56 x57 x58 x59 x60 x61 x62 x63 x64 x65 x66 x67 x68 x69 x70 x71 x72 x73 x74 x75 x76 x77 x78 x79 x80 x81 x82 x83 x84 x85 x86 x87 x88 x89 x90 x91 x92 x93 x94 x95 x96 x97 x98 x99 x100 x101 x102 x103 x104 x105 x106 x107 x108 x109 x110 x111 x112 x113 x114 x115 x116 x117 x118 x119 x120 x121 x122 x123 x124 x125 x126 x127 x128 x129 x130 x131 x132 x133 x134 x135 x136 x137 : Value) :
    Code.wp Try.prog shr22 (bodyPost Try.prog Try.f4 post) ⟨#[x0, x1, .slice a3 len3 cap3, x3, x4, x5, x6, .pointer (some ⟨bn, 0, none⟩), .slice A8 X.length c8, x9, x10, .pointer (some ⟨bm, 0, none⟩), v12, x13, x14, x15, x16, x17, x18, x19, x20, x21, x22, x23, x24, x25, x26, x27, x28, x29, x30, x31, x32, x33, x34, x35, x36, x37, x38, x39, x40, x41, x42, x43, x44, x45, x46, x47, x48, x49, x50, x51, x52, x53, x54, x55, x56, x57, x58, x59, x60, x61, x62, x63, x64, x65, x66, x67, x68, x69, x70, x71, x72, x73, x74, x75, x76, x77, x78, x79, x80, x81, x82, x83, x84, x85, x86, x87, x88, x89, x90, x91, x92, x93, x94, x95, x96, x97, x98, x99, x100, x101, x102, x103, x104, x105, x106, x107, x108, x109, x110, x111, x112, x113, x114, x115, x116, x117, x118, x119, x120, x121, x122, x123, x124, x125, x126, x127, x128, x129, x130, x131, x132, x133, x134, x135, x136, x137], []⟩ w := by
  obtain ⟨A12, c12, rfl⟩ := hOk.form
  obtain ⟨KL, hKL⟩ : ∃ KL, KL = K.length := ⟨_, rfl⟩
  have HF := Lib.hid (fun wr (K' : List ByteArray) (e1 : K'.length = KL) (e2 : ∀ k, k ∈ K' ↔ k ∈ K) hS hTm (hOk : OwnS w0.heap.size wr (.slice A12 KL c12) K') => by
    have h := shr29_any post w0 wr bn bm X Y K' A8 c8 hS hlX hpost hTm hlY (fun k hk => hzK k ((e2 k).1 hk)) (by omega) (fun p => by rw [e2]; exact hXY p) A12 c12 (by rw [e1]; exact hOk)
    rw [e1] at h
    exact h)
  have hl3 := hrow.len_le
  have HR3 := Lib.hid hrow
  clear hpost hXY hrow hzK
  rw [← hKL] at hOk hlK ⊢
  have HKL := Lib.hid hKL
  clear hKL
  simp only []
  conv => arg 2; whnf
  go_wp2_with fail
  go_loopw [83] (fun vi wr => ∃ (j : Nat) (K' : List ByteArray), j ≤ KL ∧ vi = .int .i64 j ∧ K'.length = KL ∧ (∀ k, k ∈ K' ↔ k ∈ K) ∧ OwnS w0.heap.size wr (.slice A12 KL c12) K' ∧ PW wr bm Y ∧ SB w0 wr bn X A8 c8) (fun vi wr => KL - (RowKit.intOf vi).toNat)
  case atStart => exact ⟨0, K, by omega, rfl, HKL.out.symm, fun _ => Iff.rfl, hOk, hTm, hSB⟩
  case round =>
    clear hTm hOk hSB
    obtain ⟨j, K', hj, rfl, hK'l, hKm', hOk, hTm, hSB⟩ := hrel
    have hKm := Lib.hid hKm'
    clear hKm'
    by_cases hlt : j < KL
    · have L1 : (j : Int) < (KL : Int) := by omega
      have L2 : IntKind.i64.wrap ((j : Int) + 1) = ((j + 1 : Nat) : Int) := by rw [IntWalk.i64_in _ (by omega)]; omega
      by_cases h3 : j < len3
      · have L3 : (j : Int) < (len3 : Int) := by omega
        obtain ⟨x, z, rfl, c0, hz0, hz1⟩ := HR3.out.at hSB.hB j h3
        obtain ⟨zn, rfl⟩ := Int.eq_ofNat_of_zero_le hz0
        obtain ⟨DD, hDD⟩ : ∃ DD, DD = KL - j := ⟨_, rfl⟩
        obtain ⟨RR, hRR⟩ : ∃ RR, RR = zn % DD := ⟨_, rfl⟩
        obtain ⟨J, hJ⟩ : ∃ J, J = j + RR := ⟨_, rfl⟩
        have hRD : RR < DD := by rw [hRR]; exact Nat.mod_lt _ (by omega)
        have M1 : IntKind.i64.wrap ((KL : Int) - (j : Int)) = (DD : Int) := by rw [IntWalk.i64_in _ (by omega)]; omega
        have M2 : ¬ ((DD : Int) = 0) := by omega
        have M3 : (zn : Int) % (DD : Int) = (RR : Int) := by rw [hRR]; omega
        have M4 : IntKind.i64.wrap ((j : Int) + (RR : Int)) = (J : Int) := by rw [IntWalk.i64_in _ (by omega)]; omega
        have M5 : IntKind.i64.wrap (zn : Int) = (zn : Int) := by rw [IntWalk.i64_in _ (by omega)]
        have hJK : J < KL := by omega
        have M6 : (J : Int) < (KL : Int) := by omega
        clear hJ hRR hDD hRD
        rw [← hK'l] at hlt hJK
        obtain ⟨g, cap, e, zi, yi⟩ := hOk.at j hlt
        obtain ⟨g', cap', e', zj, yj⟩ := hOk.at J hJK
        simp only [Value.slice.injEq] at e e'
        obtain ⟨rfl, -, rfl⟩ := e
        obtain ⟨e1, -, rfl⟩ := e'
        simp only [Option.some.injEq, Addr.mk.injEq, and_true] at e1
        subst e1
        have hblk9 : ∃ cs, Blk wr g 9 cs := by
          obtain ⟨cur, hc⟩ := own_cells hOk g rfl
          exact ⟨cur, hc⟩
        obtain ⟨cs9, hb9⟩ := hblk9
        have hOk0 : OwnS w0.heap.size wr (.slice (some ⟨g, 0, none⟩) K'.length c12) K' := by rw [hK'l]; exact hOk
        have hsw := hOk0.swap j J hlt hJK
        rw [hK'l] at hsw
        obtain ⟨K2, hK2⟩ : ∃ K2, K2 = (K'.set j K'[J]).set J K'[j] := ⟨_, rfl⟩
        rw [← hK2] at hsw
        have hK2l : K2.length = KL := by rw [hK2, List.length_set, List.length_set]; exact hK'l
        have HKM := Lib.hid (fun k => by rw [hK2]; exact swap_mem hlt hJK k : ∀ k, k ∈ K2 ↔ k ∈ K')
        have hk2 := Keep.two wr g j J (.string K'[J]) (.string K'[j])
        have hge : w0.heap.size ≤ g := own_ge hOk g rfl
        have HTM := Lib.hid (hTm.apart9 hb9 hk2)
        have HSB := Lib.hid (⟨(hSB.hB.setCell (p := ⟨g, j, none⟩) hge (.string K'[J])).setCell (p := ⟨g, J, none⟩) hge (.string K'[j]), hSB.hTn.apart9 hb9 hk2, hSB.hOx.apart9 hb9 hk2⟩ : SB w0 _ bn X A8 c8)
        have HOK := Lib.hid hsw
        have hjj : (j = J → K'[J] = K'[j]) := fun e => by subst e; rfl
        clear hsw hk2 hOk0 hOk hTm hSB hK2 hb9 HR3
        generalize K'[J] = kj at *
        generalize K'[j] = ki at *
        rw [hK'l] at hlt hJK
        by_cases hij : j = J
        · have ekk := hjj hij
          subst hij
          subst ekk
          clear hjj
          go_upto_region 27 with (fail)
          refine wp_region_late (S := fun w' => w'.cell? ⟨g, j, none⟩ = some (.string kj) ∧ w'.cell? ⟨g, j, none⟩ = some (.string kj)) (st := 13) (by kernel_rfl) ?_
          have hS : (fun w' : World => w'.cell? ⟨g, j, none⟩ = some (.string kj) ∧ w'.cell? ⟨g, j, none⟩ = some (.string kj)) wr.drew := ⟨zj, zi⟩
          refine wpAnyL_take0 (i := 0) (oi := { dst := some 102, op := Go.Op.move (Go.Operand.tmp 12), type := 42, pos := "law.go:350", after := #[], guard := none }) (v := .slice (some ⟨g, 0, none⟩) KL c12) rfl (by kernel_rfl) (by kernel_rfl) (by kernel_rfl) (by kernel_rfl) (fun _ _ _ h => h) hS (Or.inl ⟨by rfl, fun w hSw => ?_⟩) ?_
          · go_split_ands
            go_simp
          try simp only [Act.put, List.setIfInBounds_toArray, List.set_cons_zero, List.set_cons_succ]
          refine wpAnyL_take0 (i := 1) (oi := { dst := some 103, op := Go.Op.move (Go.Operand.tmp 17), type := 3, pos := "law.go:350", after := #[], guard := none }) (v := .int .i64 j) rfl (by kernel_rfl) (by kernel_rfl) (by kernel_rfl) (by kernel_rfl) (fun _ _ _ h => h) hS (Or.inl ⟨by rfl, fun w hSw => ?_⟩) ?_
          · go_split_ands
            go_simp
          try simp only [Act.put, List.setIfInBounds_toArray, List.set_cons_zero, List.set_cons_succ]
          refine wpAnyL_take0 (i := 2) (oi := { dst := some 104, op := Go.Op.move (Go.Operand.tmp 12), type := 42, pos := "law.go:350", after := #[{ on := 13, ground := Go.Ground.gcOnly Go.Departure.lateStores }], guard := none }) (v := .slice (some ⟨g, 0, none⟩) KL c12) rfl (by kernel_rfl) (by kernel_rfl) (by kernel_rfl) (by kernel_rfl) (fun _ _ _ h => h) hS (Or.inl ⟨by rfl, fun w hSw => ?_⟩) ?_
          · go_split_ands
            go_simp
          try simp only [Act.put, List.setIfInBounds_toArray, List.set_cons_zero, List.set_cons_succ]
          refine wpAnyL_take0 (i := 3) (oi := { dst := some 105, op := Go.Op.move (Go.Operand.tmp 18), type := 3, pos := "law.go:350", after := #[{ on := 13, ground := Go.Ground.gcOnly Go.Departure.lateStores }], guard := none }) (v := .int .i64 j) rfl (by kernel_rfl) (by kernel_rfl) (by kernel_rfl) (by kernel_rfl) (fun _ _ _ h => h) hS (Or.inl ⟨by rfl, fun w hSw => ?_⟩) ?_
          · go_split_ands
            go_simp
          try simp only [Act.put, List.setIfInBounds_toArray, List.set_cons_zero, List.set_cons_succ]
          refine wpAnyL_take0 (i := 4) (oi := { dst := some 106, op := Go.Op.move (Go.Operand.tmp 12), type := 42, pos := "law.go:350", after := #[], guard := none }) (v := .slice (some ⟨g, 0, none⟩) KL c12) rfl (by kernel_rfl) (by kernel_rfl) (by kernel_rfl) (by kernel_rfl) (fun _ _ _ h => h) hS (Or.inl ⟨by rfl, fun w hSw => ?_⟩) ?_
          · go_split_ands
            go_simp
          try simp only [Act.put, List.setIfInBounds_toArray, List.set_cons_zero, List.set_cons_succ]
          refine wpAnyL_take0 (i := 5) (oi := { dst := some 107, op := Go.Op.move (Go.Operand.tmp 18), type := 3, pos := "law.go:350", after := #[], guard := none }) (v := .int .i64 j) rfl (by kernel_rfl) (by kernel_rfl) (by kernel_rfl) (by kernel_rfl) (fun _ _ _ h => h) hS (Or.inl ⟨by rfl, fun w hSw => ?_⟩) ?_
          · go_split_ands
            go_simp
          try simp only [Act.put, List.setIfInBounds_toArray, List.set_cons_zero, List.set_cons_succ]
          refine wpAnyL_take0 (i := 6) (oi := { dst := some 108, op := Go.Op.indexAddr 42 (Go.Operand.tmp 106) (Go.Operand.tmp 107), type := 0, pos := "law.go:350", after := #[{ on := 4, ground := Go.Ground.data }, { on := 5, ground := Go.Ground.data }], guard := none }) (v := .pointer (some ⟨g, j, none⟩)) rfl (by kernel_rfl) (by kernel_rfl) (by kernel_rfl) (by kernel_rfl) (fun _ _ _ h => h) hS (Or.inl ⟨by rfl, fun w hSw => ?_⟩) ?_
          · go_split_ands
            go_simp
          try simp only [Act.put, List.setIfInBounds_toArray, List.set_cons_zero, List.set_cons_succ]
          refine wpAnyL_take (i := 7) (oi := { dst := some 109, op := Go.Op.load 9 (Go.Operand.tmp 108), type := 9, pos := "law.go:350", after := #[{ on := 6, ground := Go.Ground.data }], guard := none }) (v := .string kj) rfl (by kernel_rfl) (by kernel_rfl) (by kernel_rfl) (by kernel_rfl) (fun _ _ _ h => h) hS (Or.inl ⟨by rfl, fun w hSw => ?_⟩) ?_
          · go_split_ands
            go_simp
          try simp only [Act.put, List.setIfInBounds_toArray, List.set_cons_zero, List.set_cons_succ]
          refine wpAnyL_take0 (i := 8) (oi := { dst := some 110, op := Go.Op.move (Go.Operand.tmp 12), type := 42, pos := "law.go:350", after := #[], guard := none }) (v := .slice (some ⟨g, 0, none⟩) KL c12) rfl (by kernel_rfl) (by kernel_rfl) (by kernel_rfl) (by kernel_rfl) (fun _ _ _ h => h) hS (Or.inl ⟨by rfl, fun w hSw => ?_⟩) ?_
          · go_split_ands
            go_simp
          try simp only [Act.put, List.setIfInBounds_toArray, List.set_cons_zero, List.set_cons_succ]
          refine wpAnyL_take0 (i := 9) (oi := { dst := some 111, op := Go.Op.move (Go.Operand.tmp 17), type := 3, pos := "law.go:350", after := #[], guard := none }) (v := .int .i64 j) rfl (by kernel_rfl) (by kernel_rfl) (by kernel_rfl) (by kernel_rfl) (fun _ _ _ h => h) hS (Or.inl ⟨by rfl, fun w hSw => ?_⟩) ?_
          · go_split_ands
            go_simp
          try simp only [Act.put, List.setIfInBounds_toArray, List.set_cons_zero, List.set_cons_succ]
          refine wpAnyL_take0 (i := 10) (oi := { dst := some 112, op := Go.Op.indexAddr 42 (Go.Operand.tmp 110) (Go.Operand.tmp 111), type := 0, pos := "law.go:350", after := #[{ on := 8, ground := Go.Ground.data }, { on := 9, ground := Go.Ground.data }], guard := none }) (v := .pointer (some ⟨g, j, none⟩)) rfl (by kernel_rfl) (by kernel_rfl) (by kernel_rfl) (by kernel_rfl) (fun _ _ _ h => h) hS (Or.inl ⟨by rfl, fun w hSw => ?_⟩) ?_
          · go_split_ands
            go_simp
          try simp only [Act.put, List.setIfInBounds_toArray, List.set_cons_zero, List.set_cons_succ]
          refine wpAnyL_take (i := 11) (oi := { dst := some 113, op := Go.Op.load 9 (Go.Operand.tmp 112), type := 9, pos := "law.go:350", after := #[{ on := 10, ground := Go.Ground.data }], guard := none }) (v := .string kj) rfl (by kernel_rfl) (by kernel_rfl) (by kernel_rfl) (by kernel_rfl) (fun _ _ _ h => h) hS (Or.inl ⟨by rfl, fun w hSw => ?_⟩) ?_
          · go_split_ands
            go_simp
          try simp only [Act.put, List.setIfInBounds_toArray, List.set_cons_zero, List.set_cons_succ]
          refine wpAnyL_ready (rs := [12]) (by kernel_rfl) (by simp) ?_
          refine AllReadyL.cons (o := { dst := some 114, op := Go.Op.indexAddr 42 (Go.Operand.tmp 102) (Go.Operand.tmp 103), type := 0, pos := "law.go:350", after := #[{ on := 0, ground := Go.Ground.data }, { on := 1, ground := Go.Ground.data }, { on := 0, ground := Go.Ground.phase }, { on := 1, ground := Go.Ground.phase }, { on := 2, ground := Go.Ground.textOnly Go.Departure.lateStores }, { on := 3, ground := Go.Ground.textOnly Go.Departure.lateStores }, { on := 4, ground := Go.Ground.phase }, { on := 5, ground := Go.Ground.phase }, { on := 6, ground := Go.Ground.phase }, { on := 7, ground := Go.Ground.phase }, { on := 8, ground := Go.Ground.textOnly Go.Departure.lateStores }, { on := 9, ground := Go.Ground.textOnly Go.Departure.lateStores }, { on := 10, ground := Go.Ground.textOnly Go.Departure.lateStoresUnsure }, { on := 11, ground := Go.Ground.phase }], guard := none }) rfl (fun K hK => ?_) AllReadyL.nil
          go_simp
          refine hK.out _ _ (fun _ => hS) ?_
          clear hK K
          try simp only [Act.put, List.setIfInBounds_toArray, List.set_cons_zero, List.set_cons_succ]
          refine wpAnyL_ready (rs := [13]) (by kernel_rfl) (by simp) ?_
          refine AllReadyL.cons (o := { dst := none, op := Go.Op.store 9 (Go.Operand.tmp 114) (Go.Operand.tmp 109), type := 0, pos := "law.go:350", after := #[{ on := 12, ground := Go.Ground.data }, { on := 7, ground := Go.Ground.data }, { on := 0, ground := Go.Ground.phase }, { on := 1, ground := Go.Ground.phase }, { on := 2, ground := Go.Ground.textOnly Go.Departure.lateStores }, { on := 3, ground := Go.Ground.textOnly Go.Departure.lateStores }, { on := 4, ground := Go.Ground.phase }, { on := 5, ground := Go.Ground.phase }, { on := 6, ground := Go.Ground.phase }, { on := 7, ground := Go.Ground.phase }, { on := 8, ground := Go.Ground.textOnly Go.Departure.lateStores }, { on := 9, ground := Go.Ground.textOnly Go.Departure.lateStores }, { on := 10, ground := Go.Ground.textOnly Go.Departure.lateStoresUnsure }, { on := 11, ground := Go.Ground.phase }], guard := none }) rfl (fun K hK => ?_) AllReadyL.nil
          go_simp
          refine hK.out _ _ (late_no (by kernel_rfl)) ?_
          clear hK K
          try simp only [Act.put, List.setIfInBounds_toArray, List.set_cons_zero, List.set_cons_succ]
          refine wpAnyL_ready (rs := [14]) (by kernel_rfl) (by simp) ?_
          refine AllReadyL.cons (o := { dst := some 115, op := Go.Op.indexAddr 42 (Go.Operand.tmp 104) (Go.Operand.tmp 105), type := 0, pos := "law.go:350", after := #[{ on := 2, ground := Go.Ground.data }, { on := 3, ground := Go.Ground.data }, { on := 0, ground := Go.Ground.phase }, { on := 1, ground := Go.Ground.phase }, { on := 2, ground := Go.Ground.phase }, { on := 3, ground := Go.Ground.phase }, { on := 4, ground := Go.Ground.phase }, { on := 5, ground := Go.Ground.phase }, { on := 6, ground := Go.Ground.phase }, { on := 7, ground := Go.Ground.phase }, { on := 8, ground := Go.Ground.phase }, { on := 9, ground := Go.Ground.phase }, { on := 10, ground := Go.Ground.phase }, { on := 11, ground := Go.Ground.phase }, { on := 12, ground := Go.Ground.phase }, { on := 13, ground := Go.Ground.phase }], guard := none }) rfl (fun K hK => ?_) AllReadyL.nil
          go_simp
          refine hK.out _ _ (late_no (by kernel_rfl)) ?_
          clear hK K
          try simp only [Act.put, List.setIfInBounds_toArray, List.set_cons_zero, List.set_cons_succ]
          refine wpAnyL_ready (rs := [15]) (by kernel_rfl) (by simp) ?_
          refine AllReadyL.cons (o := { dst := none, op := Go.Op.store 9 (Go.Operand.tmp 115) (Go.Operand.tmp 113), type := 0, pos := "law.go:350", after := #[{ on := 14, ground := Go.Ground.data }, { on := 11, ground := Go.Ground.data }, { on := 13, ground := Go.Ground.chain }, { on := 0, ground := Go.Ground.phase }, { on := 1, ground := Go.Ground.phase }, { on := 2, ground := Go.Ground.phase }, { on := 3, ground := Go.Ground.phase }, { on := 4, ground := Go.Ground.phase }, { on := 5, ground := Go.Ground.phase }, { on := 6, ground := Go.Ground.phase }, { on := 7, ground := Go.Ground.phase }, { on := 8, ground := Go.Ground.phase }, { on := 9, ground := Go.Ground.phase }, { on := 10, ground := Go.Ground.phase }, { on := 11, ground := Go.Ground.phase }, { on := 12, ground := Go.Ground.phase }, { on := 13, ground := Go.Ground.phase }], guard := none }) rfl (fun K hK => ?_) AllReadyL.nil
          go_simp
          refine hK.out _ _ (late_no (by kernel_rfl)) ?_
          clear hK K
          try simp only [Act.put, List.setIfInBounds_toArray, List.set_cons_zero, List.set_cons_succ]
          refine wpAnyL_done (by kernel_rfl) ?_ _

          have hdr := (Below.refl ((wr.setCell ⟨g, j, none⟩ (.string kj)).setCell ⟨g, j, none⟩ (.string kj)).heap.size ((wr.setCell ⟨g, j, none⟩ (.string kj)).setCell ⟨g, j, none⟩ (.string kj))).drew
          have fTm := HTM.out.below hdr
          have fOk := HOK.out.below hdr
          have fSB := HSB.out.below hdr
          clear hdr HTM HOK HSB
          generalize ((wr.setCell ⟨g, j, none⟩ (.string kj)).setCell ⟨g, j, none⟩ (.string kj)).drew = W9 at *
          go_wp2_with fail
          exact ⟨⟨j + 1, K2, by omega, by go_num, hK2l, fun k => (HKM.out k).trans (hKm.out k), fOk, fTm, fSB⟩, by simp [RowKit.intOf]; omega⟩

        · have hij' : ¬ (J = j) := fun e => hij e.symm
          clear hjj
          go_upto_region 27 with (fail)
          refine wp_region_late (S := fun w' => w'.cell? ⟨g, J, none⟩ = some (.string kj) ∧ w'.cell? ⟨g, j, none⟩ = some (.string ki)) (st := 13) (by kernel_rfl) ?_
          have hS : (fun w' : World => w'.cell? ⟨g, J, none⟩ = some (.string kj) ∧ w'.cell? ⟨g, j, none⟩ = some (.string ki)) wr.drew := ⟨zj, zi⟩
          refine wpAnyL_take0 (i := 0) (oi := { dst := some 102, op := Go.Op.move (Go.Operand.tmp 12), type := 42, pos := "law.go:350", after := #[], guard := none }) (v := .slice (some ⟨g, 0, none⟩) KL c12) rfl (by kernel_rfl) (by kernel_rfl) (by kernel_rfl) (by kernel_rfl) (fun _ _ _ h => h) hS (Or.inl ⟨by rfl, fun w hSw => ?_⟩) ?_
          · go_split_ands
            go_simp
          try simp only [Act.put, List.setIfInBounds_toArray, List.set_cons_zero, List.set_cons_succ]
          refine wpAnyL_take0 (i := 1) (oi := { dst := some 103, op := Go.Op.move (Go.Operand.tmp 17), type := 3, pos := "law.go:350", after := #[], guard := none }) (v := .int .i64 j) rfl (by kernel_rfl) (by kernel_rfl) (by kernel_rfl) (by kernel_rfl) (fun _ _ _ h => h) hS (Or.inl ⟨by rfl, fun w hSw => ?_⟩) ?_
          · go_split_ands
            go_simp
          try simp only [Act.put, List.setIfInBounds_toArray, List.set_cons_zero, List.set_cons_succ]
          refine wpAnyL_take0 (i := 2) (oi := { dst := some 104, op := Go.Op.move (Go.Operand.tmp 12), type := 42, pos := "law.go:350", after := #[{ on := 13, ground := Go.Ground.gcOnly Go.Departure.lateStores }], guard := none }) (v := .slice (some ⟨g, 0, none⟩) KL c12) rfl (by kernel_rfl) (by kernel_rfl) (by kernel_rfl) (by kernel_rfl) (fun _ _ _ h => h) hS (Or.inl ⟨by rfl, fun w hSw => ?_⟩) ?_
          · go_split_ands
            go_simp
          try simp only [Act.put, List.setIfInBounds_toArray, List.set_cons_zero, List.set_cons_succ]
          refine wpAnyL_take0 (i := 3) (oi := { dst := some 105, op := Go.Op.move (Go.Operand.tmp 18), type := 3, pos := "law.go:350", after := #[{ on := 13, ground := Go.Ground.gcOnly Go.Departure.lateStores }], guard := none }) (v := .int .i64 J) rfl (by kernel_rfl) (by kernel_rfl) (by kernel_rfl) (by kernel_rfl) (fun _ _ _ h => h) hS (Or.inl ⟨by rfl, fun w hSw => ?_⟩) ?_
          · go_split_ands
            go_simp
          try simp only [Act.put, List.setIfInBounds_toArray, List.set_cons_zero, List.set_cons_succ]
          refine wpAnyL_take0 (i := 4) (oi := { dst := some 106, op := Go.Op.move (Go.Operand.tmp 12), type := 42, pos := "law.go:350", after := #[], guard := none }) (v := .slice (some ⟨g, 0, none⟩) KL c12) rfl (by kernel_rfl) (by kernel_rfl) (by kernel_rfl) (by kernel_rfl) (fun _ _ _ h => h) hS (Or.inl ⟨by rfl, fun w hSw => ?_⟩) ?_
          · go_split_ands
            go_simp
          try simp only [Act.put, List.setIfInBounds_toArray, List.set_cons_zero, List.set_cons_succ]
          refine wpAnyL_take0 (i := 5) (oi := { dst := some 107, op := Go.Op.move (Go.Operand.tmp 18), type := 3, pos := "law.go:350", after := #[], guard := none }) (v := .int .i64 J) rfl (by kernel_rfl) (by kernel_rfl) (by kernel_rfl) (by kernel_rfl) (fun _ _ _ h => h) hS (Or.inl ⟨by rfl, fun w hSw => ?_⟩) ?_
          · go_split_ands
            go_simp
          try simp only [Act.put, List.setIfInBounds_toArray, List.set_cons_zero, List.set_cons_succ]
          refine wpAnyL_take0 (i := 6) (oi := { dst := some 108, op := Go.Op.indexAddr 42 (Go.Operand.tmp 106) (Go.Operand.tmp 107), type := 0, pos := "law.go:350", after := #[{ on := 4, ground := Go.Ground.data }, { on := 5, ground := Go.Ground.data }], guard := none }) (v := .pointer (some ⟨g, J, none⟩)) rfl (by kernel_rfl) (by kernel_rfl) (by kernel_rfl) (by kernel_rfl) (fun _ _ _ h => h) hS (Or.inl ⟨by rfl, fun w hSw => ?_⟩) ?_
          · go_split_ands
            go_simp
          try simp only [Act.put, List.setIfInBounds_toArray, List.set_cons_zero, List.set_cons_succ]
          refine wpAnyL_take (i := 7) (oi := { dst := some 109, op := Go.Op.load 9 (Go.Operand.tmp 108), type := 9, pos := "law.go:350", after := #[{ on := 6, ground := Go.Ground.data }], guard := none }) (v := .string kj) rfl (by kernel_rfl) (by kernel_rfl) (by kernel_rfl) (by kernel_rfl) (fun _ _ _ h => h) hS (Or.inl ⟨by rfl, fun w hSw => ?_⟩) ?_
          · go_split_ands
            go_simp
          try simp only [Act.put, List.setIfInBounds_toArray, List.set_cons_zero, List.set_cons_succ]
          refine wpAnyL_take0 (i := 8) (oi := { dst := some 110, op := Go.Op.move (Go.Operand.tmp 12), type := 42, pos := "law.go:350", after := #[], guard := none }) (v := .slice (some ⟨g, 0, none⟩) KL c12) rfl (by kernel_rfl) (by kernel_rfl) (by kernel_rfl) (by kernel_rfl) (fun _ _ _ h => h) hS (Or.inl ⟨by rfl, fun w hSw => ?_⟩) ?_
          · go_split_ands
            go_simp
          try simp only [Act.put, List.setIfInBounds_toArray, List.set_cons_zero, List.set_cons_succ]
          refine wpAnyL_take0 (i := 9) (oi := { dst := some 111, op := Go.Op.move (Go.Operand.tmp 17), type := 3, pos := "law.go:350", after := #[], guard := none }) (v := .int .i64 j) rfl (by kernel_rfl) (by kernel_rfl) (by kernel_rfl) (by kernel_rfl) (fun _ _ _ h => h) hS (Or.inl ⟨by rfl, fun w hSw => ?_⟩) ?_
          · go_split_ands
            go_simp
          try simp only [Act.put, List.setIfInBounds_toArray, List.set_cons_zero, List.set_cons_succ]
          refine wpAnyL_take0 (i := 10) (oi := { dst := some 112, op := Go.Op.indexAddr 42 (Go.Operand.tmp 110) (Go.Operand.tmp 111), type := 0, pos := "law.go:350", after := #[{ on := 8, ground := Go.Ground.data }, { on := 9, ground := Go.Ground.data }], guard := none }) (v := .pointer (some ⟨g, j, none⟩)) rfl (by kernel_rfl) (by kernel_rfl) (by kernel_rfl) (by kernel_rfl) (fun _ _ _ h => h) hS (Or.inl ⟨by rfl, fun w hSw => ?_⟩) ?_
          · go_split_ands
            go_simp
          try simp only [Act.put, List.setIfInBounds_toArray, List.set_cons_zero, List.set_cons_succ]
          refine wpAnyL_take (i := 11) (oi := { dst := some 113, op := Go.Op.load 9 (Go.Operand.tmp 112), type := 9, pos := "law.go:350", after := #[{ on := 10, ground := Go.Ground.data }], guard := none }) (v := .string ki) rfl (by kernel_rfl) (by kernel_rfl) (by kernel_rfl) (by kernel_rfl) (fun _ _ _ h => h) hS (Or.inl ⟨by rfl, fun w hSw => ?_⟩) ?_
          · go_split_ands
            go_simp
          try simp only [Act.put, List.setIfInBounds_toArray, List.set_cons_zero, List.set_cons_succ]
          refine wpAnyL_ready (rs := [12]) (by kernel_rfl) (by simp) ?_
          refine AllReadyL.cons (o := { dst := some 114, op := Go.Op.indexAddr 42 (Go.Operand.tmp 102) (Go.Operand.tmp 103), type := 0, pos := "law.go:350", after := #[{ on := 0, ground := Go.Ground.data }, { on := 1, ground := Go.Ground.data }, { on := 0, ground := Go.Ground.phase }, { on := 1, ground := Go.Ground.phase }, { on := 2, ground := Go.Ground.textOnly Go.Departure.lateStores }, { on := 3, ground := Go.Ground.textOnly Go.Departure.lateStores }, { on := 4, ground := Go.Ground.phase }, { on := 5, ground := Go.Ground.phase }, { on := 6, ground := Go.Ground.phase }, { on := 7, ground := Go.Ground.phase }, { on := 8, ground := Go.Ground.textOnly Go.Departure.lateStores }, { on := 9, ground := Go.Ground.textOnly Go.Departure.lateStores }, { on := 10, ground := Go.Ground.textOnly Go.Departure.lateStoresUnsure }, { on := 11, ground := Go.Ground.phase }], guard := none }) rfl (fun K hK => ?_) AllReadyL.nil
          go_simp
          refine hK.out _ _ (fun _ => hS) ?_
          clear hK K
          try simp only [Act.put, List.setIfInBounds_toArray, List.set_cons_zero, List.set_cons_succ]
          refine wpAnyL_ready (rs := [13]) (by kernel_rfl) (by simp) ?_
          refine AllReadyL.cons (o := { dst := none, op := Go.Op.store 9 (Go.Operand.tmp 114) (Go.Operand.tmp 109), type := 0, pos := "law.go:350", after := #[{ on := 12, ground := Go.Ground.data }, { on := 7, ground := Go.Ground.data }, { on := 0, ground := Go.Ground.phase }, { on := 1, ground := Go.Ground.phase }, { on := 2, ground := Go.Ground.textOnly Go.Departure.lateStores }, { on := 3, ground := Go.Ground.textOnly Go.Departure.lateStores }, { on := 4, ground := Go.Ground.phase }, { on := 5, ground := Go.Ground.phase }, { on := 6, ground := Go.Ground.phase }, { on := 7, ground := Go.Ground.phase }, { on := 8, ground := Go.Ground.textOnly Go.Departure.lateStores }, { on := 9, ground := Go.Ground.textOnly Go.Departure.lateStores }, { on := 10, ground := Go.Ground.textOnly Go.Departure.lateStoresUnsure }, { on := 11, ground := Go.Ground.phase }], guard := none }) rfl (fun K hK => ?_) AllReadyL.nil
          go_simp
          refine hK.out _ _ (late_no (by kernel_rfl)) ?_
          clear hK K
          try simp only [Act.put, List.setIfInBounds_toArray, List.set_cons_zero, List.set_cons_succ]
          refine wpAnyL_ready (rs := [14]) (by kernel_rfl) (by simp) ?_
          refine AllReadyL.cons (o := { dst := some 115, op := Go.Op.indexAddr 42 (Go.Operand.tmp 104) (Go.Operand.tmp 105), type := 0, pos := "law.go:350", after := #[{ on := 2, ground := Go.Ground.data }, { on := 3, ground := Go.Ground.data }, { on := 0, ground := Go.Ground.phase }, { on := 1, ground := Go.Ground.phase }, { on := 2, ground := Go.Ground.phase }, { on := 3, ground := Go.Ground.phase }, { on := 4, ground := Go.Ground.phase }, { on := 5, ground := Go.Ground.phase }, { on := 6, ground := Go.Ground.phase }, { on := 7, ground := Go.Ground.phase }, { on := 8, ground := Go.Ground.phase }, { on := 9, ground := Go.Ground.phase }, { on := 10, ground := Go.Ground.phase }, { on := 11, ground := Go.Ground.phase }, { on := 12, ground := Go.Ground.phase }, { on := 13, ground := Go.Ground.phase }], guard := none }) rfl (fun K hK => ?_) AllReadyL.nil
          go_simp
          refine hK.out _ _ (late_no (by kernel_rfl)) ?_
          clear hK K
          try simp only [Act.put, List.setIfInBounds_toArray, List.set_cons_zero, List.set_cons_succ]
          refine wpAnyL_ready (rs := [15]) (by kernel_rfl) (by simp) ?_
          refine AllReadyL.cons (o := { dst := none, op := Go.Op.store 9 (Go.Operand.tmp 115) (Go.Operand.tmp 113), type := 0, pos := "law.go:350", after := #[{ on := 14, ground := Go.Ground.data }, { on := 11, ground := Go.Ground.data }, { on := 13, ground := Go.Ground.chain }, { on := 0, ground := Go.Ground.phase }, { on := 1, ground := Go.Ground.phase }, { on := 2, ground := Go.Ground.phase }, { on := 3, ground := Go.Ground.phase }, { on := 4, ground := Go.Ground.phase }, { on := 5, ground := Go.Ground.phase }, { on := 6, ground := Go.Ground.phase }, { on := 7, ground := Go.Ground.phase }, { on := 8, ground := Go.Ground.phase }, { on := 9, ground := Go.Ground.phase }, { on := 10, ground := Go.Ground.phase }, { on := 11, ground := Go.Ground.phase }, { on := 12, ground := Go.Ground.phase }, { on := 13, ground := Go.Ground.phase }], guard := none }) rfl (fun K hK => ?_) AllReadyL.nil
          go_simp
          refine hK.out _ _ (late_no (by kernel_rfl)) ?_
          clear hK K
          try simp only [Act.put, List.setIfInBounds_toArray, List.set_cons_zero, List.set_cons_succ]
          refine wpAnyL_done (by kernel_rfl) ?_ _

          have hdr := (Below.refl ((wr.setCell ⟨g, j, none⟩ (.string kj)).setCell ⟨g, J, none⟩ (.string ki)).heap.size ((wr.setCell ⟨g, j, none⟩ (.string kj)).setCell ⟨g, J, none⟩ (.string ki))).drew
          have fTm := HTM.out.below hdr
          have fOk := HOK.out.below hdr
          have fSB := HSB.out.below hdr
          clear hdr HTM HOK HSB
          generalize ((wr.setCell ⟨g, j, none⟩ (.string kj)).setCell ⟨g, J, none⟩ (.string ki)).drew = W9 at *
          go_wp2_with fail
          exact ⟨⟨j + 1, K2, by omega, by go_num, hK2l, fun k => (HKM.out k).trans (hKm.out k), fOk, fTm, fSB⟩, by simp [RowKit.intOf]; omega⟩

      · have L3 : ¬ ((j : Int) < (len3 : Int)) := by omega
        clear HR3
        go_wp2_with fail
        exact ⟨⟨j + 1, K', by omega, by go_num, hK'l, hKm.out, hOk, hTm, hSB⟩, by simp [RowKit.intOf]; omega⟩
    · obtain rfl : j = KL := by omega
      have G : ¬ ((j : Int) < (j : Int)) := by omega
      have HFF := Lib.hid (HF.out wr K' hK'l hKm.out hSB hTm hOk)
      clear HF hSB hTm hOk HR3
      repeat (first | exact HFF.out _ _ _ _ _ _ _ _ _ _ _ _ _ _ _ _ _ _ _ _ _ _ _ _ _ _ _ _ _ _ _ _ _ _ _ _ _ _ _ _ _ _ _ _ _ _ _ _ _ _ _ _ _ _ _ _ _ _ _ _ _ _ _ _ _ _ _ _ _ _ _ _ _ _ _ _ _ _ _ _ _ _ _ _ _ _ _ _ _ _ _ _ _ _ _ _ _ _ _ _ _ _ _ _ _ _ _ _ _ _ _ _ _ _ _ _ _ _ _ _ _ _ _ _ _ _ _ _ _ _ _ _ _ _ | go_step)
end Go.Proofs.Ytchimfgbdfmegab.radixShrinks
/- RadixShrinks, part by part. -/
namespace Go.Proofs.Ytchimfgbdfmegab.radixShrinks
open Go.ChangeShapes Go.WideShapes Go.RowKit Go.Lib
set_option linter.unusedVariables false
set_option linter.unnecessarySimpa false
set_option linter.unusedSimpArgs false
set_option linter.unnecessarySimpa false
set_option maxRecDepth 100000
noncomputable def shr12 : Code := (Try.f4.body.bind (fromRegion 12)).getD .skip
set_option maxHeartbeats 16000000 in
theorem shr12_any (post : Ending → World → Prop) (w0 w : World) (a2 : Option Addr) (len2 cap2 : Nat) (ps2 : List Pr) (hp2 : ArgP w0 a2 len2 cap2 ps2) (a3 : Option Addr) (len3 cap3 : Nat) (zs : List Int) (hrow : IsRow .u8 w0 a3 len3 cap3 zs) (bn : Nat) (X : List Pr) (A8 : Option Addr) (c8 : Nat) (hS : SB w0 w bn X A8 c8) (hlX : X.length ≤ 25) (hpost : ∀ w', Below w0.heap.size w0 w' → post (.returned (.bool true)) w') (x0 x3 x4 x5 x6 x9 x10 x11 x12 x13 x14 x15 x16 x17 x18 x19 x20 x21 x22 x23 x24 x25 x26 x27 x28 x29 x30 x31 x32 x33 x34 x35 x36 x37 x38 x39 x40 x41 x42 x43 x44 x45 x46 x47 x48 x49 x50 x51 x52 x53 x54 x55 x56 x57 x58 x59 x60 x61 x62 x63 x64 x65 x66 x67 x68 x69 x70 x71 x72 x73 x74 x75 x76 x77 x78 x79 x80 x81 x82 x83 x84 x85 x86 x87 x88 x89 x90 x91 x92 x93 x94 x95 x96 x97 x98 x99 x100 x101 x102 x103 x104 x105 x106 x107 x108 x109 x110 x111 x112 x113 x114 x115 x116 x117 x118 x119 x120 x121 x122 x123 x124 x125 x126 x127 x128 x129 x130 x131 x132 x133 x134 x135 x136 x137 : Value) :
    Code.wp Try.prog shr12 (bodyPost Try.prog Try.f4 post) ⟨#[x0, .slice a2 len2 cap2, .slice a3 len3 cap3, x3, x4, x5, x6, .pointer (some ⟨bn, 0, none⟩), .slice A8 X.length c8, x9, x10, x11, x12, x13, x14, x15, x16, x17, x18, x19, x20, x21, x22, x23, x24, x25, x26, x27, x28, x29, x30, x31, x32, x33, x34, x35, x36, x37, x38, x39, x40, x41, x42, x43, x44, x45, x46, x47, x48, x49, x50, x51, x52, x53, x54, x55, x56, x57, x58, x59, x60, x61, x62, x63, x64, x65, x66, x67, x68, x69, x70, x71, x72, x73, x74, x75, x76, x77, x78, x79, x80, x81, x82, x83, x84, x85, x86, x87, x88, x89, x90, x91, x92, x93, x94, x95, x96, x97, x98, x99, x100, x101, x102, x103, x104, x105, x106, x107, x108, x109, x110, x111, x112, x113, x114, x115, x116, x117, x118, x119, x120, x121, x122, x123, x124, x125, x126, x127, x128, x129, x130, x131, x132, x133, x134, x135, x136, x137], []⟩ w := by
  obtain ⟨i9, hi9, hy90, hy91, hy92⟩ := info_parts info9
  have HF := Lib.hid (fun wr bm Y K v12 hS hTm hOk hlY hzK hlK hXY => shr22_any post w0 wr a3 len3 cap3 zs hrow bn bm X Y K A8 c8 v12 hS hlX hpost hTm hlY hzK hlK hXY hOk)
  have hl2 := hp2.len_leR
  have HA2 := Lib.hid hp2
  clear hpost hrow hp2
  simp only []
  conv => arg 2; whnf
  go_wp2_with fail
  go_loopw [11, 12, 48] (fun v11 v12 vi wr => ∃ (j bm : Nat) (Y : List Pr) (K : List ByteArray), j ≤ len2 ∧ vi = .int .i64 j ∧ v11 = .pointer (some ⟨bm, 0, none⟩) ∧ Y.length ≤ 25 + K.length ∧ (∀ k ∈ K, k.size ≤ 40) ∧ K.length ≤ j ∧ K.length ≤ 20 ∧ Hid (∀ p, p ∈ X ↔ p ∈ Y ∧ p.1 ∉ K) ∧ PW wr bm Y ∧ OwnS w0.heap.size wr v12 K ∧ SB w0 wr bn X A8 c8) (fun v11 v12 vi wr => len2 - (RowKit.intOf vi).toNat)
  case atStart => exact ⟨0, bn, X, [], by omega, rfl, rfl, by simpa using hlX, by simp, by simp, by simp, Lib.hid (fun p => by simp), hS.hTn, OwnS.nil _ _, hS⟩
  case round =>
    clear hS
    obtain ⟨j, bq, Y, K, hj, rfl, rfl, hlY, hzK, hlKj, hlK, HXY, hTm, hOk, hS⟩ := hrel
    by_cases hlt : j < len2
    · obtain ⟨x, rfl, hpl, c0, c1⟩ := argp_at HA2.out hS.hB j hlt
      have L1 : (j : Int) < (len2 : Int) := by omega
      have L2 : IntKind.i64.wrap ((j : Int) + 1) = ((j + 1 : Nat) : Int) := by rw [IntWalk.i64_in _ (by unfold maxLen at hl2; omega)]; omega
      generalize pat ps2 j = q at *
      go_upto_region 17 with (fail)
      have hBl := (Below.refl _ wr).alloc (Nat.le_refl _) (.cells #[.string q.1, .string q.2] 24)
      have hP := Blk.new wr 24 #[.string q.1, .string q.2]
      have hS := hS.below hBl
      have hTm := hTm.below hBl
      have hOk := hOk.below hBl
      clear hBl c0 c1 hpl
      generalize wr.alloc (.cells #[.string q.1, .string q.2] 24) = W1 at *
      generalize wr.heap.size = NP at *
      have hp1 : (few40 q).1.size ≤ 40 := cut40_size q.1
      have hp2 : (few40 q).2.size ≤ 40 := cut40_size q.2
      have kfew : ∀ w', Calls Try.prog 8 #[.agg #[.string q.1, .string q.2]] w' fun e w'' => e = .returned (.agg #[.string (few40 q).1, .string (few40 q).2]) ∧ Below w'.heap.size w' w'' := fun w' => few_any q.1 q.2 w'
      generalize few40 q = p at *
      have hfl := fun w => field0 p.1 p.2 w
      have p0 : W1.cell? ⟨NP, 0, none⟩ = some (.string q.1) := hP.cell 0
      have p1 : W1.cell? ⟨NP, 1, none⟩ = some (.string q.2) := hP.cell 1
      go_wp2_with fail
      refine (kfew W1).mono ?_
      rintro e w2 ⟨rfl, hB2⟩
      have hS := hS.below hB2
      have hTm := hTm.below hB2
      have hOk := hOk.below hB2
      have hP := hP.below hB2
      obtain ⟨A', c', e', hR⟩ := hS.hOx.rd
      simp only [Value.slice.injEq, true_and] at e'
      obtain ⟨rfl, rfl⟩ := e'
      have hzX := hS.hTn.keys
      have kg := refGetR_any A8 c8 X p.1 w2 hR (by omega) (sized_mem fun x hx => Nat.le_trans (hzX x hx) (by unfold maxLen; omega)) (by unfold maxLen; omega)
      clear p0 p1 hB2 hR
      go_wp2_with fail
      refine kg.mono ?_
      rintro e w3 ⟨rfl, hB3⟩
      have hS := hS.below hB3
      have hTm := hTm.below hB3
      have hOk := hOk.below hB3
      have hP := hP.below hB3
      clear kg hB3
      by_cases hgo : j < 20 ∧ getR X p.1 = none
      · obtain ⟨h20, hg⟩ := hgo
        have G : (j : Int) < 20 := by omega
        rw [hg]
        simp only [Option.isSome_none, Option.getD_none]
        have p0 : w3.cell? ⟨NP, 0, none⟩ = some (.string q.1) := hP.cell 0
        have p1 : w3.cell? ⟨NP, 1, none⟩ = some (.string q.2) := hP.cell 1
        go_wp2_with fail
        refine (kfew w3).mono ?_
        rintro e w4 ⟨rfl, hB4⟩
        have hS := hS.below hB4
        have hTm := hTm.below hB4
        have hOk := hOk.below hB4
        have hP := hP.below hB4
        have kp := put_list hTm (.pointer none) p.1 p.2 (.inl rfl) hp1 hp2
        simp only [at0] at kp
        clear hB4 p0 p1
        go_wp2_with fail
        refine kp.mono ?_
        rintro e w5 ⟨b1, rfl, -, hT1, hB5⟩
        have hS := hS.below hB5
        have hOk := hOk.below hB5
        have hP := hP.below hB5
        clear kp hB5 hTm
        generalize (getR Y p.1).isNone = gb at *
        have p0 : w5.cell? ⟨NP, 0, none⟩ = some (.string q.1) := hP.cell 0
        have p1 : w5.cell? ⟨NP, 1, none⟩ = some (.string q.2) := hP.cell 1
        go_wp2_with fail
        refine (kfew w5).mono ?_
        rintro e w6 ⟨rfl, hB6⟩
        have hS := hS.below hB6
        have hOk := hOk.below hB6
        have hTm := hT1.below hB6
        clear p0 p1 hB6 hT1 hP kfew
        have hBc := (Below.refl _ w6).alloc (Nat.le_refl _) (.cells #[.string p.1] 9)
        have hS := hS.below hBc
        have hOk := hOk.below hBc
        have hTm := hTm.below hBc
        have hrow : (w6.alloc (.cells #[.string p.1] 9)).ownsRow w0.heap.size 9 1 u12 K.length (scs K) := hOk
        have hsz6 := hS.hB.size
        have HTm6 := Lib.hid hTm
        have HS6 := Lib.hid hS
        clear hTm hS hOk hBc
        go_wp2_with (at_builtin; refine wpList_append_own_at _ rfl _ _ 42 rfl w0.heap.size 9 i9 _ 1 16 Try.underlying42 hi9 hy90 hy91 hy92 zsz_str (by decide) _ _ _ rfl hrow ⟨w6.heap.size, 0, none⟩ 1 1 [.string p.1] rfl rfl (cell_one_new _ _ _) (by simp [Value.oneCell']) (by unfold maxLen; omega) (by omega) hsz6 ?_; intro v' wa hown' hgrow hnil hat)
        replace hgrow : (w6.alloc (.cells #[.string p.1] 9)).grownBy wa u12.ownBlock := hgrow
        have kk := keep_grown hgrow
        have hTP : ∀ b ps, PW (w6.alloc (.cells #[.string p.1] 9)) b ps → PW wa b ps := fun b ps hT => by
          cases hu : u12.ownBlock with
          | none => exact hT.below ((keep_grown (by rw [hu] at hgrow; exact hgrow)).below (Nat.le_refl _) (by simp))
          | some x =>
            obtain ⟨cs, hb⟩ := own_cells hrow x hu
            exact hT.apart9 hb (by rw [hu] at kk; exact kk)
        have hfin : OwnS w0.heap.size wa v' (K ++ [p.1]) := by
          unfold OwnS
          rw [List.length_append]
          have e1 : scs (K ++ [p.1]) = scs K ++ [.string p.1] := by simp [scs]
          rw [e1]; exact hown'
        have hOx7 : OwnR w0.heap.size wa (.slice A8 X.length c8) X := own_keep HS6.out.hOx kk (fun x hx e => by
          have hx' : u12.ownBlock = some x := by simpa using hx
          obtain ⟨cs, hb⟩ := own_cells hrow x hx'
          obtain ⟨cur, hc⟩ := own_cells HS6.out.hOx x e
          rw [hc] at hb
          simp at hb)
        refine ⟨⟨j + 1, b1, putK Y p, K ++ [p.1], by omega, by go_num, rfl, ?_, ?_, by simp; omega, by simp; omega, Lib.hid (shr_add HS6.out.hTn.rises HXY.out hg), hTP _ _ HTm6.out, hfin, ⟨HS6.out.hB.grown hgrow hsz6 (own_ge hrow), hTP _ _ HS6.out.hTn, hOx7⟩⟩, by simp [RowKit.intOf]; omega⟩
        · have := put_lenR Y p
          simp; omega
        · intro k hk
          rcases List.mem_append.1 hk with h | h
          · exact hzK k h
          · rw [List.mem_singleton] at h; rw [h]; exact hp1
      · by_cases h20 : j < 20
        · have G : (j : Int) < 20 := by omega
          have hgs : (getR X p.1).isSome = true := by
            cases hg : getR X p.1 with
            | none => exact absurd ⟨h20, hg⟩ hgo
            | some v => rfl
          rw [hgs]
          clear hgo hP kfew hfl
          generalize (getR X p.1).getD ⟨#[]⟩ = gd at *
          go_wp2_with fail
          exact ⟨⟨j + 1, bq, Y, K, by omega, by go_num, rfl, hlY, hzK, by omega, hlK, HXY, hTm, hOk, hS⟩, by simp [RowKit.intOf]; omega⟩
        · have G : ¬ ((j : Int) < 20) := by omega
          clear hgo hP kfew hfl
          generalize (getR X p.1).getD ⟨#[]⟩ = gd at *
          generalize (getR X p.1).isSome = gs at *
          go_wp2_with fail
          exact ⟨⟨j + 1, bq, Y, K, by omega, by go_num, rfl, hlY, hzK, by omega, hlK, HXY, hTm, hOk, hS⟩, by simp [RowKit.intOf]; omega⟩
    · obtain rfl : j = len2 := by omega
      have G : ¬ ((j : Int) < (j : Int)) := by omega
      have HFF := Lib.hid (HF.out wr bq Y K u12 hS hTm hOk (by omega) hzK hlK HXY.out)
      clear HF hS hTm hOk HA2
      repeat (first | exact HFF.out _ _ _ _ _ _ _ _ _ _ _ _ _ _ _ _ _ _ _ _ _ _ _ _ _ _ _ _ _ _ _ _ _ _ _ _ _ _ _ _ _ _ _ _ _ _ _ _ _ _ _ _ _ _ _ _ _ _ _ _ _ _ _ _ _ _ _ _ _ _ _ _ _ _ _ _ _ _ _ _ _ _ _ _ _ _ _ _ _ _ _ _ _ _ _ _ _ _ _ _ _ _ _ _ _ _ _ _ _ _ _ _ _ _ _ _ _ _ _ _ _ _ _ _ _ _ _ _ _ _ _ _ _ | go_step)
end Go.Proofs.Ytchimfgbdfmegab.radixShrinks
