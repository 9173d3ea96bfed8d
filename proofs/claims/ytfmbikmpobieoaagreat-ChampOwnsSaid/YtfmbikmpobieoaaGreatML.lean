/- Drop, below the root. -/
import Derived.Test.YtfmbikmpobieoaaGreatMJ
import Derived.Deep.RegionHeld3
namespace Go.Proofs.YtfmbikmpobieoaaGreat
open Go.RowKit Go.Lib
set_option linter.unusedVariables false
set_option linter.unusedSimpArgs false
set_option maxRecDepth 100000
attribute [local irreducible] cnt
def Bx1 (N1 : Nat) (k0 k1 m hh : Int) (T : Option Addr) (w' : World) : Prop := w'.cell? ⟨N1, 0, none⟩ = some (.int .u64 k0) ∧ w'.cell? ⟨N1, 1, none⟩ = some (.int .u64 k1) ∧ w'.cell? ⟨N1, 2, none⟩ = some (.int .u64 m) ∧ w'.cell? ⟨N1, 3, none⟩ = some (.int .u64 hh) ∧ w'.cell? ⟨N1, 4, none⟩ = some (.pointer T)
theorem Bx1.keep {N1 : Nat} {k0 k1 m hh : Int} {T : Option Addr} {w w' : World} (h : Bx1 N1 k0 k1 m hh T w) (e1 : w'.heap[N1]? = w.heap[N1]?) : Bx1 N1 k0 k1 m hh T w' := by
  have f1 : ∀ i, w'.cell? ⟨N1, i, none⟩ = w.cell? ⟨N1, i, none⟩ := fun i => by simp [World.cell?, e1]
  unfold Bx1 at *
  simp only [f1]
  exact h
theorem Bx1.below {N1 : Nat} {k0 k1 m hh : Int} {T : Option Addr} {w w' : World} (h : Bx1 N1 k0 k1 m hh T w) (hB : Below w.heap.size w w') : Bx1 N1 k0 k1 m hh T w' := h.keep (hB.block _ (World.block_lt_of_cell? w _ h.1))
theorem KeepF.bx1 {F : Nat → Prop} {N1 : Nat} {k0 k1 m hh : Int} {T : Option Addr} {w w' : World} (hk : KeepF F w w') (h : Bx1 N1 k0 k1 m hh T w) (h1 : ¬ F N1) : Bx1 N1 k0 k1 m hh T w' := h.keep (hk.block _ (World.block_lt_of_cell? w _ h.1) h1)
theorem Bx1.new (w : World) (k0 k1 m hh : Int) (T : Option Addr) : Bx1 w.heap.size k0 k1 m hh T (w.alloc (.cells #[.int .u64 k0, .int .u64 k1, .int .u64 m, .int .u64 hh, .pointer T] 76)) := by
  have b1 := Blk.new w 76 #[.int .u64 k0, .int .u64 k1, .int .u64 m, .int .u64 hh, .pointer T]
  exact ⟨b1.cell 0, b1.cell 1, b1.cell 2, b1.cell 3, b1.cell 4⟩
noncomputable def drop2 : Code := (Tryz.f32.body.bind (fromRegion 2)).getD .skip
set_option maxHeartbeats 4000000 in
theorem drop2_zero (R : Nat → World → Prop) (k0 k1 m hh : Int) (tk : Option Nat) (b l N1 : Nat) (own : Bool) (T : Option Addr) (pk : ByteArray) (w : World) (hT : pt tk = .pointer T) (hl : l = 13)
    (hbx : Bx1 N1 k0 k1 m hh T w)
    (ho : own = true ∨ ∀ w', Below w.heap.size w w' → Calls Tryz.prog 56 #[.pointer (some ⟨b, 0, none⟩), pt tk] w' fun e w'' => e = .returned (.bool false) ∧ w' = w'')
    (h : ∀ w', Below w.heap.size w w' → Calls Tryz.prog 86 #[.pointer (some ⟨b, 0, none⟩), pt tk, .string pk] w' (RetB fun b1 w1 => R b1 w1 ∧ Bx1 N1 k0 k1 m hh T w1)) (x0 x6 x7 x8 x9 x10 x11 x12 x13 x14 x15 x16 x17 x18 x19 x20 x21 x22 x23 x24 x25 x26 x27 x28 x29 x30 x31 x32 x33 x34 x35 x36 x37 x38 x39 x40 x41 x42 x43 x44 x45 x46 x47 x48 x49 x50 x51 x52 x53 x54 x55 x56 x57 x58 x59 x60 x61 x62 x63 x64 x65 x66 x67 x68 x69 x70 x71 x72 x73 x74 x75 : Value) :
    Code.wp Tryz.prog drop2 (bodyPost Tryz.prog Tryz.f32 (RetB R)) ⟨#[x0, .pointer (some ⟨b, 0, none⟩), .int .i64 l, .bool own, .string pk, .pointer (some ⟨N1, 0, none⟩), x6, x7, x8, x9, x10, x11, x12, x13, x14, x15, x16, x17, x18, x19, x20, x21, x22, x23, x24, x25, x26, x27, x28, x29, x30, x31, x32, x33, x34, x35, x36, x37, x38, x39, x40, x41, x42, x43, x44, x45, x46, x47, x48, x49, x50, x51, x52, x53, x54, x55, x56, x57, x58, x59, x60, x61, x62, x63, x64, x65, x66, x67, x68, x69, x70, x71, x72, x73, x74, x75], []⟩ w := by
  subst hl
  have HM := Lib.hid (fun (f : Value) (w1 : World) (hB : Below w.heap.size w w1) (hf : isDrop w1 f pk) => madeDrop k0 k1 m hh tk b own f pk _ w1 hf (ho.imp_right fun g w' hw => g w' (hB.trans (hw.mono hB.size))) (fun w' hw => h w' (hB.trans (hw.mono hB.size))))
  rw [hT] at HM
  have hS : (fun w' : World => w'.cell? ⟨N1, 0, none⟩ = some (.int .u64 k0) ∧ w'.cell? ⟨N1, 1, none⟩ = some (.int .u64 k1) ∧ w'.cell? ⟨N1, 2, none⟩ = some (.int .u64 m) ∧ w'.cell? ⟨N1, 3, none⟩ = some (.int .u64 hh) ∧ w'.cell? ⟨N1, 4, none⟩ = some (.pointer T)) w.drew := hbx
  have hB0 : Below w.heap.size w w.drew := (Below.refl _ w).drew
  clear ho h hbx hT
  simp only []
  conv => arg 2; whnf
  go_upto_region 3 with (fail)
  go_region_held3 (fun w' : World => w'.cell? ⟨N1, 0, none⟩ = some (.int .u64 k0) ∧ w'.cell? ⟨N1, 1, none⟩ = some (.int .u64 k1) ∧ w'.cell? ⟨N1, 2, none⟩ = some (.int .u64 m) ∧ w'.cell? ⟨N1, 3, none⟩ = some (.int .u64 hh) ∧ w'.cell? ⟨N1, 4, none⟩ = some (.pointer T)) (first | exact hS | exact hK) (first
    | (have _g := hf; clear _g; go_at_call 57; refine (HM.out _ _ hBf hf).mono ?_; rintro e w2 ⟨b1, rfl, hR, hK⟩)
    | (go_at_call 58; refine (mkDrop pk _).mono ?_; rintro e w1 ⟨f, rfl, hf, hBf⟩; have hK : (fun w' : World => w'.cell? ⟨N1, 0, none⟩ = some (.int .u64 k0) ∧ w'.cell? ⟨N1, 1, none⟩ = some (.int .u64 k1) ∧ w'.cell? ⟨N1, 2, none⟩ = some (.int .u64 m) ∧ w'.cell? ⟨N1, 3, none⟩ = some (.int .u64 hh) ∧ w'.cell? ⟨N1, 4, none⟩ = some (.pointer T)) w1 := Bx1.below (w := w.drew) hS hBf; replace hBf := hB0.trans (hBf.mono hB0.size)))
  clear HM
  go_wp2_with fail
  go_ret
  exact ⟨b1, rfl, hR⟩
set_option maxHeartbeats 8000000 in
theorem drop2_clear (R : Nat → World → Prop) (k0 k1 m : Int) (hh : Nat) (tk : Option Nat) (b l C N1 : Nat) (own : Bool) (T : Option Addr) (pk : ByteArray) (w : World) (hT : pt tk = .pointer T) (hl : l < 13)
    (hbx : Bx1 N1 k0 k1 m hh T w) (ha : ∀ w', Calls Tryz.prog 50 #[.int .u64 hh, .int .i64 l] w' fun e w'' => e = .returned (.int .i64 C) ∧ w' = w'')
    (hk : ∀ w', Below w.heap.size w w' → Calls Tryz.prog 53 #[.pointer (some ⟨b, 0, none⟩), .int .i64 C] w' (KidPost none w'))
    (ho : own = true ∨ ∀ w', Below w.heap.size w w' → Calls Tryz.prog 56 #[.pointer (some ⟨b, 0, none⟩), pt tk] w' fun e w'' => e = .returned (.bool false) ∧ w' = w'')
    (h : ∀ w', Below w.heap.size w w' → Calls Tryz.prog 55 #[.pointer (some ⟨b, 0, none⟩), pt tk, .int .i64 C] w' (RetB fun b1 w1 => R b1 w1 ∧ Bx1 N1 k0 k1 m hh T w1)) (x0 x6 x7 x8 x9 x10 x11 x12 x13 x14 x15 x16 x17 x18 x19 x20 x21 x22 x23 x24 x25 x26 x27 x28 x29 x30 x31 x32 x33 x34 x35 x36 x37 x38 x39 x40 x41 x42 x43 x44 x45 x46 x47 x48 x49 x50 x51 x52 x53 x54 x55 x56 x57 x58 x59 x60 x61 x62 x63 x64 x65 x66 x67 x68 x69 x70 x71 x72 x73 x74 x75 : Value) :
    Code.wp Tryz.prog drop2 (bodyPost Tryz.prog Tryz.f32 (RetB R)) ⟨#[x0, .pointer (some ⟨b, 0, none⟩), .int .i64 l, .bool own, .string pk, .pointer (some ⟨N1, 0, none⟩), x6, x7, x8, x9, x10, x11, x12, x13, x14, x15, x16, x17, x18, x19, x20, x21, x22, x23, x24, x25, x26, x27, x28, x29, x30, x31, x32, x33, x34, x35, x36, x37, x38, x39, x40, x41, x42, x43, x44, x45, x46, x47, x48, x49, x50, x51, x52, x53, x54, x55, x56, x57, x58, x59, x60, x61, x62, x63, x64, x65, x66, x67, x68, x69, x70, x71, x72, x73, x74, x75], []⟩ w := by
  have HM := Lib.hid (fun (f : Value) (w1 : World) (hB : Below w.heap.size w w1) (hf : isClear w1 f C) => madeClear k0 k1 m hh tk b own f C _ w1 hf (ho.imp_right fun g w' hw => g w' (hB.trans (hw.mono hB.size))) (fun w' hw => h w' (hB.trans (hw.mono hB.size))))
  rw [hT] at HM
  have c3 : w.cell? ⟨N1, 3, none⟩ = some (.int .u64 hh) := hbx.2.2.2.1
  have L13 : ¬ ((l : Int) = 13) := by omega
  have hkw := hk w (Below.refl _ _)
  have haw := ha w
  have HBX := Lib.hid hbx
  clear ho h hbx hT hk ha
  simp only []
  conv => arg 2; whnf
  go_wp2_with fail
  refine haw.mono ?_
  rintro e w' ⟨rfl, rfl⟩
  go_wp2_with fail
  refine hkw.mono ?_
  rintro e w1 ⟨rfl, hB1⟩
  simp only [pt, Option.isSome_none]
  have hbW := HBX.out.below hB1
  have hS : (fun w' : World => w'.cell? ⟨N1, 0, none⟩ = some (.int .u64 k0) ∧ w'.cell? ⟨N1, 1, none⟩ = some (.int .u64 k1) ∧ w'.cell? ⟨N1, 2, none⟩ = some (.int .u64 m) ∧ w'.cell? ⟨N1, 3, none⟩ = some (.int .u64 hh) ∧ w'.cell? ⟨N1, 4, none⟩ = some (.pointer T)) w1.drew := hbW
  have hB0 : Below w.heap.size w w1.drew := hB1.drew
  clear haw hkw c3 HBX hB1 hbW
  go_upto_region 7 with (fail)
  go_region_held3 (fun w' : World => w'.cell? ⟨N1, 0, none⟩ = some (.int .u64 k0) ∧ w'.cell? ⟨N1, 1, none⟩ = some (.int .u64 k1) ∧ w'.cell? ⟨N1, 2, none⟩ = some (.int .u64 m) ∧ w'.cell? ⟨N1, 3, none⟩ = some (.int .u64 hh) ∧ w'.cell? ⟨N1, 4, none⟩ = some (.pointer T)) (first | exact hS | exact hK) (first
    | (have _g := hf; clear _g; go_at_call 57; refine (HM.out _ _ hBf hf).mono ?_; rintro e w5 ⟨b1, rfl, hR, hK⟩)
    | (go_at_call 59; refine (mkClear C _).mono ?_; rintro e w4 ⟨f, rfl, hf, hBf⟩; have hK : (fun w' : World => w'.cell? ⟨N1, 0, none⟩ = some (.int .u64 k0) ∧ w'.cell? ⟨N1, 1, none⟩ = some (.int .u64 k1) ∧ w'.cell? ⟨N1, 2, none⟩ = some (.int .u64 m) ∧ w'.cell? ⟨N1, 3, none⟩ = some (.int .u64 hh) ∧ w'.cell? ⟨N1, 4, none⟩ = some (.pointer T)) w4 := Bx1.below (w := w1.drew) hS hBf; replace hBf := hB0.trans (hBf.mono hB0.size)))
  clear HM
  go_wp2_with fail
  go_ret
  exact ⟨b1, rfl, hR⟩
theorem keep3 {N1 N3 : Nat} {k0 k1 m hh : Int} {T : Option Addr} {ok ou : ByteArray} {w w' : World} (h : (fun w' : World => w'.cell? ⟨N1, 0, none⟩ = some (.int .u64 k0) ∧ w'.cell? ⟨N1, 1, none⟩ = some (.int .u64 k1) ∧ w'.cell? ⟨N1, 2, none⟩ = some (.int .u64 m) ∧ w'.cell? ⟨N1, 3, none⟩ = some (.int .u64 hh) ∧ w'.cell? ⟨N1, 4, none⟩ = some (.pointer T) ∧ w'.cell? ⟨N3, 0, none⟩ = some (.string ok) ∧ w'.cell? ⟨N3, 1, none⟩ = some (.string ou)) w) (hB : Below w.heap.size w w') : (fun w' : World => w'.cell? ⟨N1, 0, none⟩ = some (.int .u64 k0) ∧ w'.cell? ⟨N1, 1, none⟩ = some (.int .u64 k1) ∧ w'.cell? ⟨N1, 2, none⟩ = some (.int .u64 m) ∧ w'.cell? ⟨N1, 3, none⟩ = some (.int .u64 hh) ∧ w'.cell? ⟨N1, 4, none⟩ = some (.pointer T) ∧ w'.cell? ⟨N3, 0, none⟩ = some (.string ok) ∧ w'.cell? ⟨N3, 1, none⟩ = some (.string ou)) w' := by
  have f : ∀ a v, w.cell? a = some v → w'.cell? a = some v := fun a v e => (hB.cell (World.block_lt_of_cell? w _ e)).trans e
  obtain ⟨a, b, c, d, e, f1, g⟩ := h
  exact ⟨f _ _ a, f _ _ b, f _ _ c, f _ _ d, f _ _ e, f _ _ f1, f _ _ g⟩
set_option maxHeartbeats 8000000 in
theorem drop2_two (R : Nat → World → Prop) (k0 k1 m : Int) (hh : Nat) (tk : Option Nat) (b l C N1 : Nat) (own : Bool) (T : Option Addr) (pk : ByteArray) (w : World) (hT : pt tk = .pointer T) (hl : l < 13)
    (hbx : Bx1 N1 k0 k1 m hh T w) (ha : ∀ w', Calls Tryz.prog 50 #[.int .u64 hh, .int .i64 l] w' fun e w'' => e = .returned (.int .i64 C) ∧ w' = w'') (kb : Nat) (ok ou : ByteArray)
    (hk : ∀ w', Below w.heap.size w w' → Calls Tryz.prog 53 #[.pointer (some ⟨b, 0, none⟩), .int .i64 C] w' (KidPost (some kb) w'))
    (hot : ∀ w', Below w.heap.size w w' → Calls Tryz.prog 60 #[.pointer (some ⟨kb, 0, none⟩), .string pk] w' (PairPost (some (ok, ou)) w'))
    (ho : own = true ∨ ∀ w', Below w.heap.size w w' → Calls Tryz.prog 56 #[.pointer (some ⟨b, 0, none⟩), pt tk] w' fun e w'' => e = .returned (.bool false) ∧ w' = w'')
    (h : ∀ w', Below w.heap.size w w' → Calls Tryz.prog 90 #[.pointer (some ⟨b, 0, none⟩), pt tk, .int .i64 C, .agg #[.string ok, .string ou]] w' (RetB fun b1 w1 => R b1 w1 ∧ Bx1 N1 k0 k1 m hh T w1 ∧ ∀ x, w.heap.size ≤ x → x < w'.heap.size → w1.heap[x]? = w'.heap[x]?)) (x0 x6 x7 x8 x9 x10 x11 x12 x13 x14 x15 x16 x17 x18 x19 x20 x21 x22 x23 x24 x25 x26 x27 x28 x29 x30 x31 x32 x33 x34 x35 x36 x37 x38 x39 x40 x41 x42 x43 x44 x45 x46 x47 x48 x49 x50 x51 x52 x53 x54 x55 x56 x57 x58 x59 x60 x61 x62 x63 x64 x65 x66 x67 x68 x69 x70 x71 x72 x73 x74 x75 : Value) :
    Code.wp Tryz.prog drop2 (bodyPost Tryz.prog Tryz.f32 (RetB R)) ⟨#[x0, .pointer (some ⟨b, 0, none⟩), .int .i64 l, .bool own, .string pk, .pointer (some ⟨N1, 0, none⟩), x6, x7, x8, x9, x10, x11, x12, x13, x14, x15, x16, x17, x18, x19, x20, x21, x22, x23, x24, x25, x26, x27, x28, x29, x30, x31, x32, x33, x34, x35, x36, x37, x38, x39, x40, x41, x42, x43, x44, x45, x46, x47, x48, x49, x50, x51, x52, x53, x54, x55, x56, x57, x58, x59, x60, x61, x62, x63, x64, x65, x66, x67, x68, x69, x70, x71, x72, x73, x74, x75], []⟩ w := by
  have HM := Lib.hid (fun (N3 : Nat) (hN3 : w.heap.size ≤ N3) (f : Value) (w1 : World) (hB : Below w.heap.size w w1) (hc : w1.cell? ⟨N3, 0, none⟩ = some (.string ok) ∧ w1.cell? ⟨N3, 1, none⟩ = some (.string ou)) (hf : isPair w1 f C ok ou) => madePair k0 k1 m hh tk b own f C ok ou (fun b1 w3 => R b1 w3 ∧ Bx1 N1 k0 k1 m hh T w3 ∧ w3.cell? ⟨N3, 0, none⟩ = some (.string ok) ∧ w3.cell? ⟨N3, 1, none⟩ = some (.string ou)) w1 hf (ho.imp_right fun g w' hw => g w' (hB.trans (hw.mono hB.size))) (fun w' hw => (h w' (hB.trans (hw.mono hB.size))).mono (by
    rintro e w3 ⟨b1, he, hR, hb, hx⟩
    have z0 := (hw.cell (World.block_lt_of_cell? w1 _ hc.1)).trans hc.1
    have z1 := (hw.cell (World.block_lt_of_cell? w1 _ hc.2)).trans hc.2
    have e3 := hx N3 hN3 (World.block_lt_of_cell? w' _ z0)
    have f3 : ∀ i, w3.cell? ⟨N3, i, none⟩ = w'.cell? ⟨N3, i, none⟩ := fun i => by simp [World.cell?, e3]
    exact ⟨b1, he, hR, hb, (f3 0).trans z0, (f3 1).trans z1⟩)))
  rw [hT] at HM
  have c3 : w.cell? ⟨N1, 3, none⟩ = some (.int .u64 hh) := hbx.2.2.2.1
  have L13 : ¬ ((l : Int) = 13) := by omega
  have hkw := hk w (Below.refl _ _)
  have haw := ha w
  have HBX := Lib.hid hbx
  clear ho h hbx hT hk ha
  simp only []
  conv => arg 2; whnf
  go_wp2_with fail
  refine haw.mono ?_
  rintro e w' ⟨rfl, rfl⟩
  go_wp2_with fail
  refine hkw.mono ?_
  rintro e w1 ⟨rfl, hB1⟩
  simp only [pt, Option.isSome_some]
  unfold at0
  have hpw := hot w1 hB1
  clear haw hkw c3 hot
  go_wp2_with fail
  refine hpw.mono ?_
  rintro e w2 ⟨rfl, hB2⟩
  simp only [optP, Pr.v, Option.isSome_some]
  go_upto_region 9 with (fail)
  have hB12 := hB1.trans (hB2.mono hB1.size)
  have hN3 := hB12.size
  have hB3 := hB12.alloc hB12.size (.cells #[.string ok, .string ou] 34)
  have hnew := Blk.new w2 34 #[.string ok, .string ou]
  clear hpw hB1 hB2 hB12
  generalize w2.alloc (.cells #[.string ok, .string ou] 34) = W at *
  generalize w2.heap.size = N3 at *
  have hbW := HBX.out.below hB3
  have q0 : W.cell? ⟨N3, 0, none⟩ = some (.string ok) := hnew.cell 0
  have q1 : W.cell? ⟨N3, 1, none⟩ = some (.string ou) := hnew.cell 1
  have hS : (fun w' : World => w'.cell? ⟨N1, 0, none⟩ = some (.int .u64 k0) ∧ w'.cell? ⟨N1, 1, none⟩ = some (.int .u64 k1) ∧ w'.cell? ⟨N1, 2, none⟩ = some (.int .u64 m) ∧ w'.cell? ⟨N1, 3, none⟩ = some (.int .u64 hh) ∧ w'.cell? ⟨N1, 4, none⟩ = some (.pointer T) ∧ w'.cell? ⟨N3, 0, none⟩ = some (.string ok) ∧ w'.cell? ⟨N3, 1, none⟩ = some (.string ou)) W.drew := ⟨hbW.1, hbW.2.1, hbW.2.2.1, hbW.2.2.2.1, hbW.2.2.2.2, q0, q1⟩
  have hB0 : Below w.heap.size w W.drew := hB3.drew
  clear HBX hnew hB3 hbW q0 q1
  go_upto_region 10 with (fail)
  go_region_held3 (fun w' : World => w'.cell? ⟨N1, 0, none⟩ = some (.int .u64 k0) ∧ w'.cell? ⟨N1, 1, none⟩ = some (.int .u64 k1) ∧ w'.cell? ⟨N1, 2, none⟩ = some (.int .u64 m) ∧ w'.cell? ⟨N1, 3, none⟩ = some (.int .u64 hh) ∧ w'.cell? ⟨N1, 4, none⟩ = some (.pointer T) ∧ w'.cell? ⟨N3, 0, none⟩ = some (.string ok) ∧ w'.cell? ⟨N3, 1, none⟩ = some (.string ou)) (first | exact hS | exact hK) (first
    | (have _g := hf; clear _g; go_at_call 57; refine (HM.out _ hN3 _ _ hBf ⟨hK4.2.2.2.2.2.1, hK4.2.2.2.2.2.2⟩ hf).mono ?_; rintro e w5 ⟨b1, rfl, hR, hK5, hK6⟩; have hK : (fun w' : World => w'.cell? ⟨N1, 0, none⟩ = some (.int .u64 k0) ∧ w'.cell? ⟨N1, 1, none⟩ = some (.int .u64 k1) ∧ w'.cell? ⟨N1, 2, none⟩ = some (.int .u64 m) ∧ w'.cell? ⟨N1, 3, none⟩ = some (.int .u64 hh) ∧ w'.cell? ⟨N1, 4, none⟩ = some (.pointer T) ∧ w'.cell? ⟨N3, 0, none⟩ = some (.string ok) ∧ w'.cell? ⟨N3, 1, none⟩ = some (.string ou)) w5 := ⟨hK5.1, hK5.2.1, hK5.2.2.1, hK5.2.2.2.1, hK5.2.2.2.2, hK6.1, hK6.2⟩)
    | (go_at_call 61; refine (mkPair C ok ou _).mono ?_; rintro e w4 ⟨f, rfl, hf, hBf⟩; have hK : (fun w' : World => w'.cell? ⟨N1, 0, none⟩ = some (.int .u64 k0) ∧ w'.cell? ⟨N1, 1, none⟩ = some (.int .u64 k1) ∧ w'.cell? ⟨N1, 2, none⟩ = some (.int .u64 m) ∧ w'.cell? ⟨N1, 3, none⟩ = some (.int .u64 hh) ∧ w'.cell? ⟨N1, 4, none⟩ = some (.pointer T) ∧ w'.cell? ⟨N3, 0, none⟩ = some (.string ok) ∧ w'.cell? ⟨N3, 1, none⟩ = some (.string ou)) w4 := keep3 (w := W.drew) hS hBf; have hK4 := hK; replace hBf := hB0.trans (hBf.mono hB0.size)))
  clear HM
  go_wp2_with fail
  go_ret
  exact ⟨b1, rfl, hR⟩
set_option maxHeartbeats 8000000 in
theorem drop2_kid (R : Nat → World → Prop) (k0 k1 m : Int) (hh : Nat) (tk : Option Nat) (b l C N1 : Nat) (own : Bool) (T : Option Addr) (pk : ByteArray) (w : World) (hT : pt tk = .pointer T) (hl : l < 13)
    (hbx : Bx1 N1 k0 k1 m hh T w) (ha : ∀ w', Calls Tryz.prog 50 #[.int .u64 hh, .int .i64 l] w' fun e w'' => e = .returned (.int .i64 C) ∧ w' = w'') (kb : Nat) (Q : Nat → World → Prop)
    (hk : ∀ w', Below w.heap.size w w' → Calls Tryz.prog 53 #[.pointer (some ⟨b, 0, none⟩), .int .i64 C] w' (KidPost (some kb) w'))
    (hot : ∀ w', Below w.heap.size w w' → Calls Tryz.prog 60 #[.pointer (some ⟨kb, 0, none⟩), .string pk] w' (PairPost none w'))
    (hr : ∀ w', Below w.heap.size w w' → Calls Tryz.prog 32 #[.agg #[.int .u64 k0, .int .u64 k1, .int .u64 m, .int .u64 hh, .pointer T], .pointer (some ⟨kb, 0, none⟩), .int .i64 (l + 1 : Nat), .bool own, .string pk] w' (RetB fun b1 w1 => Q b1 w1 ∧ Bx1 N1 k0 k1 m hh T w1))
    (ho : ∀ kb' w1, Q kb' w1 → own = true ∨ ∀ w', Below w1.heap.size w1 w' → Calls Tryz.prog 56 #[.pointer (some ⟨b, 0, none⟩), pt tk] w' fun e w'' => e = .returned (.bool false) ∧ w' = w'')
    (h : ∀ kb' w1, Q kb' w1 → ∀ w', Below w1.heap.size w1 w' → Calls Tryz.prog 92 #[.pointer (some ⟨b, 0, none⟩), pt tk, .int .i64 C, .pointer (some ⟨kb', 0, none⟩)] w' (RetB fun b1 w2 => R b1 w2 ∧ Bx1 N1 k0 k1 m hh T w2)) (x0 x6 x7 x8 x9 x10 x11 x12 x13 x14 x15 x16 x17 x18 x19 x20 x21 x22 x23 x24 x25 x26 x27 x28 x29 x30 x31 x32 x33 x34 x35 x36 x37 x38 x39 x40 x41 x42 x43 x44 x45 x46 x47 x48 x49 x50 x51 x52 x53 x54 x55 x56 x57 x58 x59 x60 x61 x62 x63 x64 x65 x66 x67 x68 x69 x70 x71 x72 x73 x74 x75 : Value) :
    Code.wp Tryz.prog drop2 (bodyPost Tryz.prog Tryz.f32 (RetB R)) ⟨#[x0, .pointer (some ⟨b, 0, none⟩), .int .i64 l, .bool own, .string pk, .pointer (some ⟨N1, 0, none⟩), x6, x7, x8, x9, x10, x11, x12, x13, x14, x15, x16, x17, x18, x19, x20, x21, x22, x23, x24, x25, x26, x27, x28, x29, x30, x31, x32, x33, x34, x35, x36, x37, x38, x39, x40, x41, x42, x43, x44, x45, x46, x47, x48, x49, x50, x51, x52, x53, x54, x55, x56, x57, x58, x59, x60, x61, x62, x63, x64, x65, x66, x67, x68, x69, x70, x71, x72, x73, x74, x75], []⟩ w := by
  have HM := Lib.hid (fun (kb' : Nat) (w1 : World) (hQ : Q kb' w1) (f : Value) (w2 : World) (hB : Below w1.heap.size w1 w2) (hf : isKid w2 f C kb') => madeKid k0 k1 m hh tk b own f C kb' _ w2 hf ((ho kb' w1 hQ).imp_right fun g w' hw => g w' (hB.trans (hw.mono hB.size))) (fun w' hw => h kb' w1 hQ w' (hB.trans (hw.mono hB.size))))
  rw [hT] at HM
  have c3 : w.cell? ⟨N1, 3, none⟩ = some (.int .u64 hh) := hbx.2.2.2.1
  have L13 : ¬ ((l : Int) = 13) := by omega
  have L2 : IntKind.i64.wrap ((l : Int) + 1) = ((l + 1 : Nat) : Int) := by rw [IntWalk.i64_in _ (by omega)]; omega
  have hkw := hk w (Below.refl _ _)
  have haw := ha w
  have HBX := Lib.hid hbx
  have HR := Lib.hid hr
  clear ho h hbx hT hk ha hr
  simp only []
  conv => arg 2; whnf
  go_wp2_with fail
  refine haw.mono ?_
  rintro e w' ⟨rfl, rfl⟩
  go_wp2_with fail
  refine hkw.mono ?_
  rintro e w1 ⟨rfl, hB1⟩
  simp only [pt, Option.isSome_some]
  unfold at0
  have hpw := hot w1 hB1
  clear haw hkw c3 hot
  go_wp2_with fail
  refine hpw.mono ?_
  rintro e w2 ⟨rfl, hB2⟩
  simp only [optP, Option.isSome_none]
  go_upto_region 9 with (fail)
  have hB12 := hB1.trans (hB2.mono hB1.size)
  have hB3 := hB12.alloc hB12.size (.cells #[.string ⟨#[]⟩, .string ⟨#[]⟩] 34)
  clear hpw hB1 hB2 hB12
  generalize w2.alloc (.cells #[.string ⟨#[]⟩, .string ⟨#[]⟩] 34) = W at *
  have hbW := HBX.out.below hB3
  have hS : (fun w' : World => w'.cell? ⟨N1, 0, none⟩ = some (.int .u64 k0) ∧ w'.cell? ⟨N1, 1, none⟩ = some (.int .u64 k1) ∧ w'.cell? ⟨N1, 2, none⟩ = some (.int .u64 m) ∧ w'.cell? ⟨N1, 3, none⟩ = some (.int .u64 hh) ∧ w'.cell? ⟨N1, 4, none⟩ = some (.pointer T)) W.drew := hbW
  have hB0 : Below w.heap.size w W.drew := hB3.drew
  have hrec := HR.out _ hB0
  clear HBX HR hB3 hbW hB0
  obtain ⟨J, hJ⟩ : ∃ J : Int, J = ((l + 1 : Nat) : Int) := ⟨_, rfl⟩
  rw [← hJ] at hrec L2
  clear hJ
  go_upto_region 11 with (fail)
  go_region_held3 (fun w' : World => w'.cell? ⟨N1, 0, none⟩ = some (.int .u64 k0) ∧ w'.cell? ⟨N1, 1, none⟩ = some (.int .u64 k1) ∧ w'.cell? ⟨N1, 2, none⟩ = some (.int .u64 m) ∧ w'.cell? ⟨N1, 3, none⟩ = some (.int .u64 hh) ∧ w'.cell? ⟨N1, 4, none⟩ = some (.pointer T)) (first | exact hS | exact hK) (first
    | (have _g := hf; clear _g; go_at_call 57; refine (HM.out _ _ hQ _ _ hBf hf).mono ?_; rintro e w5 ⟨b1, rfl, hR, hK⟩)
    | (have _g := hQ; clear _g; go_at_call 62; refine (mkKid C kb' _).mono ?_; rintro e w4 ⟨f, rfl, hf, hBf⟩; have hK : (fun w' : World => w'.cell? ⟨N1, 0, none⟩ = some (.int .u64 k0) ∧ w'.cell? ⟨N1, 1, none⟩ = some (.int .u64 k1) ∧ w'.cell? ⟨N1, 2, none⟩ = some (.int .u64 m) ∧ w'.cell? ⟨N1, 3, none⟩ = some (.int .u64 hh) ∧ w'.cell? ⟨N1, 4, none⟩ = some (.pointer T)) w4 := Bx1.below (w := w3) hK3 hBf)
    | (go_at_call 32; refine hrec.mono ?_; rintro e w3 ⟨kb', rfl, hQ, hK⟩; have hK3 := hK))
  clear HM
  go_wp2_with fail
  go_ret
  exact ⟨b1, rfl, hR⟩
set_option maxHeartbeats 4000000 in
theorem drop_head (post : Ending → World → Prop) (k0 k1 m hh : Int) (b l : Nat) (own ours : Bool) (T : Option Addr) (pk : ByteArray) (w : World) (ho : ours = true ∨ own = false)
    (hown : ∀ w', Below w.heap.size w w' → Calls Tryz.prog 56 #[.pointer (some ⟨b, 0, none⟩), .pointer T] w' fun e w'' => e = .returned (.bool own) ∧ w' = w'')
    (hm : ∀ (N1 : Nat) (w1 : World) (x0 x6 x7 x8 x9 x10 x11 x12 x13 x14 x15 x16 x17 x18 x19 x20 x21 x22 x23 x24 x25 x26 x27 x28 x29 x30 x31 x32 x33 x34 x35 x36 x37 x38 x39 x40 x41 x42 x43 x44 x45 x46 x47 x48 x49 x50 x51 x52 x53 x54 x55 x56 x57 x58 x59 x60 x61 x62 x63 x64 x65 x66 x67 x68 x69 x70 x71 x72 x73 x74 x75 : Value), Below w.heap.size w w1 → w.heap.size ≤ N1 → Bx1 N1 k0 k1 m hh T w1 → Code.wp Tryz.prog drop2 (bodyPost Tryz.prog Tryz.f32 post) ⟨#[x0, .pointer (some ⟨b, 0, none⟩), .int .i64 l, .bool own, .string pk, .pointer (some ⟨N1, 0, none⟩), x6, x7, x8, x9, x10, x11, x12, x13, x14, x15, x16, x17, x18, x19, x20, x21, x22, x23, x24, x25, x26, x27, x28, x29, x30, x31, x32, x33, x34, x35, x36, x37, x38, x39, x40, x41, x42, x43, x44, x45, x46, x47, x48, x49, x50, x51, x52, x53, x54, x55, x56, x57, x58, x59, x60, x61, x62, x63, x64, x65, x66, x67, x68, x69, x70, x71, x72, x73, x74, x75], []⟩ w1) :
    Calls Tryz.prog 32 #[.agg #[.int .u64 k0, .int .u64 k1, .int .u64 m, .int .u64 hh, .pointer T], .pointer (some ⟨b, 0, none⟩), .int .i64 l, .bool ours, .string pk] w post := by
  have hB0 := (Below.refl _ w).alloc (Nat.le_refl _) (.cells #[.int .u64 k0, .int .u64 k1, .int .u64 m, .int .u64 hh, .pointer T] 76)
  have hbx := Bx1.new w k0 k1 m hh T
  have hof := hown _ hB0
  have HM := Lib.hid (hm w.heap.size)
  clear hm hown
  cases ours with
  | true =>
    clear ho
    go_enter Tryz.func32, Tryz.ntmps32
    go_upto_region 1 with (fail)
    generalize w.alloc (.cells #[.int .u64 k0, .int .u64 k1, .int .u64 m, .int .u64 hh, .pointer T] 76) = W at *
    have HG := Lib.hid (fun x0 x6 x7 x8 x9 x10 x11 x12 x13 x14 x15 x16 x17 x18 x19 x20 x21 x22 x23 x24 x25 x26 x27 x28 x29 x30 x31 x32 x33 x34 x35 x36 x37 x38 x39 x40 x41 x42 x43 x44 x45 x46 x47 x48 x49 x50 x51 x52 x53 x54 x55 x56 x57 x58 x59 x60 x61 x62 x63 x64 x65 x66 x67 x68 x69 x70 x71 x72 x73 x74 x75 => HM.out W x0 x6 x7 x8 x9 x10 x11 x12 x13 x14 x15 x16 x17 x18 x19 x20 x21 x22 x23 x24 x25 x26 x27 x28 x29 x30 x31 x32 x33 x34 x35 x36 x37 x38 x39 x40 x41 x42 x43 x44 x45 x46 x47 x48 x49 x50 x51 x52 x53 x54 x55 x56 x57 x58 x59 x60 x61 x62 x63 x64 x65 x66 x67 x68 x69 x70 x71 x72 x73 x74 x75 hB0 (Nat.le_refl _) hbx)
    have c4 := hbx.2.2.2.2
    clear HM hB0 hbx
    generalize w.heap.size = N1 at *
    go_wp2_with fail
    refine hof.mono ?_
    rintro e w' ⟨rfl, rfl⟩
    dsimp only
    repeat (first | exact HG.out _ _ _ _ _ _ _ _ _ _ _ _ _ _ _ _ _ _ _ _ _ _ _ _ _ _ _ _ _ _ _ _ _ _ _ _ _ _ _ _ _ _ _ _ _ _ _ _ _ _ _ _ _ _ _ _ _ _ _ _ _ _ _ _ _ _ _ _ _ _ _ | go_step)
  | false =>
    obtain rfl : own = false := ho.resolve_left (by simp)
    clear ho hof
    go_enter Tryz.func32, Tryz.ntmps32
    go_upto_region 1 with (fail)
    generalize w.alloc (.cells #[.int .u64 k0, .int .u64 k1, .int .u64 m, .int .u64 hh, .pointer T] 76) = W at *
    have HG := Lib.hid (fun x0 x6 x7 x8 x9 x10 x11 x12 x13 x14 x15 x16 x17 x18 x19 x20 x21 x22 x23 x24 x25 x26 x27 x28 x29 x30 x31 x32 x33 x34 x35 x36 x37 x38 x39 x40 x41 x42 x43 x44 x45 x46 x47 x48 x49 x50 x51 x52 x53 x54 x55 x56 x57 x58 x59 x60 x61 x62 x63 x64 x65 x66 x67 x68 x69 x70 x71 x72 x73 x74 x75 => HM.out W x0 x6 x7 x8 x9 x10 x11 x12 x13 x14 x15 x16 x17 x18 x19 x20 x21 x22 x23 x24 x25 x26 x27 x28 x29 x30 x31 x32 x33 x34 x35 x36 x37 x38 x39 x40 x41 x42 x43 x44 x45 x46 x47 x48 x49 x50 x51 x52 x53 x54 x55 x56 x57 x58 x59 x60 x61 x62 x63 x64 x65 x66 x67 x68 x69 x70 x71 x72 x73 x74 x75 hB0 (Nat.le_refl _) hbx)
    clear HM hB0 hbx
    generalize w.heap.size = N1 at *
    repeat (first | exact HG.out _ _ _ _ _ _ _ _ _ _ _ _ _ _ _ _ _ _ _ _ _ _ _ _ _ _ _ _ _ _ _ _ _ _ _ _ _ _ _ _ _ _ _ _ _ _ _ _ _ _ _ _ _ _ _ _ _ _ _ _ _ _ _ _ _ _ _ _ _ _ _ | go_step)
end Go.Proofs.YtfmbikmpobieoaaGreat
/- Drop below the root: every trie that has the key. -/
namespace Go.Proofs.YtfmbikmpobieoaaGreat
open Go.RowKit Go.Lib
set_option linter.unusedVariables false
set_option linter.unusedSimpArgs false
set_option maxRecDepth 100000
attribute [local irreducible] cnt
set_option maxHeartbeats 4000000 in
theorem drop_any (k0 k1 m : Int) (X : Nat → Prop) (tk : Option Nat) (lv : Bool) (base : Nat) (T : Option Addr) (pk : ByteArray) (hT : pt tk = .pointer T) :
    ∀ (n l b : Nat) (ps : List Pr) (F : Nat → Prop) (w : World) (ours : Bool), n + l = 13 → Cx X tk lv base w → Trie (hz k0 k1 m) X tk lv base w n l b ps F → RisesL ps → ps.length ≤ 700 → (∃ v, getK ps pk = some v) → (ours = true ∨ ∀ x, ¬ F x) →
      Calls Tryz.prog 32 #[.agg #[.int .u64 k0, .int .u64 k1, .int .u64 m, .int .u64 (hz k0 k1 m pk : Nat), .pointer T], .pointer (some ⟨b, 0, none⟩), .int .i64 l, .bool ours, .string pk] w (RetB (ChPost (hz k0 k1 m) X tk lv base n l (dropK ps pk) F w))
  | 0, l, b, ps, F, w, ours, hl, hcx, hTr, hr, hn, hky, hours => by
    have hbl := Trie.blocks _ _ _ _ _ hTr
    obtain ⟨ow, pv, kv, lo, hB, hv, hN⟩ := hTr
    have hoo : ours = true ∨ ownB ow tk lv = false := by
      rcases hours with h | h
      · exact .inl h
      · refine .inr ?_
        cases ho : ownB ow tk lv with
        | false => rfl
        | true => rw [ho] at hN; exact absurd (((hN.yes rfl).2.1 b).2 (.inl (foot_mem _ _ _))) (h b)
    refine drop_head _ k0 k1 m (hz k0 k1 m pk : Nat) b l (ownB ow tk lv) ours T pk w hoo (fun w' hw => owned_trie hT (hB.1.below hw) (hcx.tv.below hw) (hv.below hw)) ?_
    intro N1 w1 x0 x6 x7 x8 x9 x10 x11 x12 x13 x14 x15 x16 x17 x18 x19 x20 x21 x22 x23 x24 x25 x26 x27 x28 x29 x30 x31 x32 x33 x34 x35 x36 x37 x38 x39 x40 x41 x42 x43 x44 x45 x46 x47 x48 x49 x50 x51 x52 x53 x54 x55 x56 x57 x58 x59 x60 x61 x62 x63 x64 x65 x66 x67 x68 x69 x70 x71 x72 x73 x74 x75 hB1 hN1 hbx
    refine drop2_zero _ k0 k1 m _ tk b l N1 _ T pk w1 hT (by omega) hbx ?_ ?_ _ _ _ _ _ _ _ _ _ _ _ _ _ _ _ _ _ _ _ _ _ _ _ _ _ _ _ _ _ _ _ _ _ _ _ _ _ _ _ _ _ _ _ _ _ _ _ _ _ _ _ _ _ _ _ _ _ _ _ _ _ _ _ _ _ _ _ _ _ _ _
    · cases ho : ownB ow tk lv with
      | true => exact .inl rfl
      | false =>
        refine .inr fun w' hw => ?_
        have hBw := hB1.trans (hw.mono hB1.size)
        have := owned_trie hT (hB.1.below hBw) (hcx.tv.below hBw) (hv.below hBw)
        rw [ho] at this; rw [hT]; exact this
    · intro w' hw
      have hBw := hB1.trans (hw.mono hB1.size)
      refine (drop_in base b pk ow tk lo lv 0 0 pv kv ps [] w' (hB.1.below hBw) (hcx.tv.below hBw) (hv.below hBw) hB.2 (by omega) (by simp) (Nat.le_trans hcx.base hBw.size)).mono ?_
      intro e w2 hp
      refine (Trie.changeB (H := hz k0 k1 m) (l := l) (hcx.below hBw) ⟨hB.1.below hBw, hB.2⟩ hN.w hp (drop_rises _ _ hB.2)).mono fun b1 hc => ⟨hc.from hBw, ?_⟩
      obtain ⟨F', -, hk, -, -⟩ := hc
      exact hk.bx1 (hbx.below hw) (fun h => by have := (hbl _ h).2.1; omega)
  | n + 1, l, b, ps, F, w, ours, hl, hcx, hTr, hr, hn, hky, hours => by
    have IH := drop_any k0 k1 m X tk lv base T pk hT n
    have hbl := Trie.blocks _ _ _ _ _ hTr
    obtain ⟨ow, pv, kv, lo, S, Fs, hI, hv, hN, hS⟩ := hTr
    have hI' := hI
    obtain ⟨d0, n0, hNd, -, -⟩ := hI'
    have hoo : ours = true ∨ ownB ow tk lv = false := by
      rcases hours with h | h
      · exact .inl h
      · refine .inr ?_
        cases ho : ownB ow tk lv with
        | false => rfl
        | true => rw [ho] at hN; exact absurd (((hN.yes rfl).2.1 b).2 (.inl (foot_mem _ _ _))) (h b)
    refine drop_head _ k0 k1 m (hz k0 k1 m pk : Nat) b l (ownB ow tk lv) ours T pk w hoo (fun w' hw => owned_trie hT (hNd.below hw) (hcx.tv.below hw) (hv.below hw)) ?_
    intro N1 w1 x0 x6 x7 x8 x9 x10 x11 x12 x13 x14 x15 x16 x17 x18 x19 x20 x21 x22 x23 x24 x25 x26 x27 x28 x29 x30 x31 x32 x33 x34 x35 x36 x37 x38 x39 x40 x41 x42 x43 x44 x45 x46 x47 x48 x49 x50 x51 x52 x53 x54 x55 x56 x57 x58 x59 x60 x61 x62 x63 x64 x65 x66 x67 x68 x69 x70 x71 x72 x73 x74 x75 hB1 hN1 hbx
    obtain ⟨C, hC⟩ : ∃ C, C = chk (hz k0 k1 m) l pk := ⟨_, rfl⟩
    have hC32 : C < 32 := by rw [hC]; exact chk_lt _ _ _
    have hat : ∀ w', Calls Tryz.prog 50 #[.int .u64 (hz k0 k1 m pk : Nat), .int .i64 l] w' fun e w'' => e = .returned (.int .i64 C) ∧ w' = w'' := fun w' => by rw [hC]; exact at_chk (hz k0 k1 m) l pk w' (by omega) (hz_int k0 k1 m pk).2
    have hkid : ∀ w', Below w1.heap.size w1 w' → Calls Tryz.prog 53 #[.pointer (some ⟨b, 0, none⟩), .int .i64 C] w' (KidPost (S.K C) w') := fun w' hw => Inn.kid base b C ow S pv kv w' (hI.below (hB1.trans (hw.mono hB1.size))) hC32
    have hsub1 : ∀ c, c ≠ C → sub (hz k0 k1 m) l c (dropK ps pk) = sub (hz k0 k1 m) l c ps := fun c hc => sub_drop_other (by rw [hC] at hc; exact fun h => hc h.symm)
    have hsub2 : sub (hz k0 k1 m) l C (dropK ps pk) = dropK (sub (hz k0 k1 m) l C ps) pk := sub_drop pk
    have hkyC : ∃ v, getK (sub (hz k0 k1 m) l C ps) pk = some v := by rw [getK_sub hC.symm]; exact hky
    have hownF : ∀ w', Below w1.heap.size w1 w' → ownB ow tk lv = false → Calls Tryz.prog 56 #[.pointer (some ⟨b, 0, none⟩), pt tk] w' fun e w'' => e = .returned (.bool false) ∧ w' = w'' := fun w' hw ho => by
      have hBw := hB1.trans (hw.mono hB1.size)
      have := owned_trie hT (hNd.below hBw) (hcx.tv.below hBw) (hv.below hBw)
      rw [ho] at this; rw [hT]; exact this
    have hown0 : ownB ow tk lv = true ∨ ∀ w', Below w1.heap.size w1 w' → Calls Tryz.prog 56 #[.pointer (some ⟨b, 0, none⟩), pt tk] w' fun e w'' => e = .returned (.bool false) ∧ w' = w'' := by
      cases ho : ownB ow tk lv with
      | true => exact .inl rfl
      | false => exact .inr fun w' hw => hownF w' hw ho
    have hsC := hS C hC32
    have hfC := hsC.facts
    have hcx1 := hcx.below hB1
    have hNF1 : ¬ F N1 := fun h => by have := (hbl _ h).2.1; omega
    have hSw : ∀ w', Below w.heap.size w w' → ∀ c, c < 32 → SlotIs (fun k qs G => Trie (hz k0 k1 m) X tk lv base w' n (l + 1) k qs G) (S c) (sub (hz k0 k1 m) l c ps) (Fs c) := fun w' hw c hc => (hS c hc).keep (fun t l h => h.below hw) (KeepF.ofBelow (F := fun _ => False) hw) (fun _ h => h.elim) (fun _ h => h.elim)
    unfold SlotIs at hsC
    cases hsc : S C with
    | no =>
      rw [hsc] at hsC
      obtain ⟨v, hv⟩ := hkyC
      rw [hsC.1] at hv
      simp [getK] at hv
    | pr q =>
      rw [hsc] at hsC
      have eK : S.K C = none := by unfold Slots.K; rw [hsc]; rfl
      rw [eK] at hkid
      have hq : dropK [q] pk = [] := by
        obtain ⟨v, hv⟩ := hkyC
        rw [hsC.1] at hv
        have h1 := getK_mem hv
        have h2 : q = (pk, v) := (List.mem_singleton.1 h1).symm
        rw [h2]; simp [dropK]
      refine drop2_clear _ k0 k1 m (hz k0 k1 m pk) tk b l C N1 _ T pk w1 hT (by omega) hbx hat hkid hown0 (fun w' hw => ?_) _ _ _ _ _ _ _ _ _ _ _ _ _ _ _ _ _ _ _ _ _ _ _ _ _ _ _ _ _ _ _ _ _ _ _ _ _ _ _ _ _ _ _ _ _ _ _ _ _ _ _ _ _ _ _ _ _ _ _ _ _ _ _ _ _ _ _ _ _ _ _
      have hBw := hB1.trans (hw.mono hB1.size)
      refine (Inn.clear base b C ow tk lo lv S pv kv w' (hI.below hBw) (hcx.tv.below hBw) (hv.below hBw) hC32 (Nat.le_trans hcx.base hBw.size)).mono ?_
      intro e w2 hp
      refine (Trie.change (H := hz k0 k1 m) (F := F) (G := fun _ => False) (n := n) (l := l) (ps := ps) (qs := []) (hcx.below hBw) (hI.below hBw) hN.w (hSw w' hBw) hC32 (KeepF.refl _ w') (x := .no) ⟨rfl, fun _ h => h⟩ (fun _ h => h.elim) hp hsub1 (by rw [hsub2, hsC.1, hq])).mono fun b1 hc => ⟨hc.from hBw, ?_⟩
      obtain ⟨F', -, hk, -, -⟩ := hc
      exact hk.bx1 (hbx.below hw) hNF1
    | kd kb =>
      rw [hsc] at hsC
      have eK : S.K C = some kb := by unfold Slots.K; rw [hsc]; rfl
      rw [eK] at hkid
      have hsr := sub_rises (H := hz k0 k1 m) (l := l) (c := C) hr
      have hsl : (sub (hz k0 k1 m) l C ps).length ≤ 700 := Nat.le_trans sub_len hn
      have hoth := fun w' hw => other_any (hz k0 k1 m) X tk lv base n (l + 1) kb (sub (hz k0 k1 m) l C ps) (Fs C) pk w' (Trie.below (w' := w') hsC.2 hw) hsr (by omega) hkyC
      by_cases h2 : (sub (hz k0 k1 m) l C ps).length = 2
      · obtain ⟨x, hx⟩ : ∃ x, dropK (sub (hz k0 k1 m) l C ps) pk = [x] := by
          obtain ⟨x, y, -, hxy⟩ := other_two (xs := sub (hz k0 k1 m) l C ps) hsr h2 h2 (fun _ => Iff.rfl) hkyC
          rcases hxy with ⟨_, h⟩ | ⟨_, h⟩
          · exact ⟨y, h⟩
          · exact ⟨x, h⟩
        obtain ⟨ok, ou⟩ := x
        refine drop2_two _ k0 k1 m (hz k0 k1 m pk) tk b l C N1 _ T pk w1 hT (by omega) hbx hat kb ok ou hkid (fun w' hw => (hoth w' (hB1.trans (hw.mono hB1.size))).mono ?_) hown0 (fun w' hw => ?_) _ _ _ _ _ _ _ _ _ _ _ _ _ _ _ _ _ _ _ _ _ _ _ _ _ _ _ _ _ _ _ _ _ _ _ _ _ _ _ _ _ _ _ _ _ _ _ _ _ _ _ _ _ _ _ _ _ _ _ _ _ _ _ _ _ _ _ _ _ _ _
        · rintro e w2 ⟨r, hp, hr1, -⟩
          obtain ⟨o, rfl, ho⟩ := hr1 h2
          rw [hx] at ho
          cases ho
          exact hp
        · have hBw := hB1.trans (hw.mono hB1.size)
          refine (Inn.setPair base b C ow tk lo lv S pv kv w' (hI.below hBw) (hcx.tv.below hBw) (hv.below hBw) hC32 (Nat.le_trans hcx.base hBw.size) (ok, ou)).mono ?_
          intro e w2 hp
          have hkeep : ∀ x, w1.heap.size ≤ x → x < w'.heap.size → w2.heap[x]? = w'.heap[x]? := by
            obtain ⟨b1, pv1, kv1, -, -, hcg⟩ := hp
            intro x hx hx2
            refine hcg.keep.block x hx2 fun hm => ?_
            split at hm
            · have := hI.footLt x hm
              have := hB1.size
              omega
            · simp at hm
          refine (Trie.change (H := hz k0 k1 m) (F := F) (G := fun _ => False) (n := n) (l := l) (ps := ps) (qs := [(ok, ou)]) (hcx.below hBw) (hI.below hBw) hN.w (hSw w' hBw) hC32 (KeepF.refl _ w') (x := .pr (ok, ou)) ⟨rfl, fun _ h => h⟩ (fun _ h => h.elim) hp hsub1 (by rw [hsub2, hx])).mono fun b1 hc => ⟨hc.from hBw, ?_, hkeep⟩
          obtain ⟨F', -, hk, -, -⟩ := hc
          exact hk.bx1 (hbx.below hw) hNF1
      · have hoC : ownB ow tk lv = true ∨ ∀ x, ¬ Fs C x := by
          cases ho : ownB ow tk lv with
          | true => exact .inl rfl
          | false => rw [ho] at hN; exact .inr fun x => (hN.no rfl).2.2 C x hC32
        have hNC1 : ¬ Fs C N1 := fun h => by have := (hfC.2.1 _ h).2.1; omega
        have hfoot : ∀ x ∈ foot b pv kv, ¬ Fs C x := fun x hx hf => by
          cases ho : ownB ow tk lv with
          | true => rw [ho] at hN; exact (hN.yes rfl).2.2.1 C x hC32 hf hx
          | false => rw [ho] at hN; exact (hN.no rfl).2.2 C x hC32 hf
        have hd2 : 2 ≤ (dropK (sub (hz k0 k1 m) l C ps) pk).length := by
          have h3 := drop_len_ge (k := pk) hsr
          have h4 := hsC.1
          omega
        exact drop2_kid _ k0 k1 m (hz k0 k1 m pk) tk b l C N1 _ T pk w1 hT (by omega) hbx hat kb
          (fun kb' w3 => ∃ w0, Below w1.heap.size w1 w0 ∧ ChPost (hz k0 k1 m) X tk lv base n (l + 1) (dropK (sub (hz k0 k1 m) l C ps) pk) (Fs C) w0 kb' w3) hkid
          (fun w' hw => (hoth w' (hB1.trans (hw.mono hB1.size))).mono (by
            rintro e w2 ⟨r, hp, -, hr2⟩
            rw [hr2 h2] at hp
            exact hp))
          (fun w' hw => by
            have hBw := hB1.trans (hw.mono hB1.size)
            have hk1 : Trie (hz k0 k1 m) X tk lv base w' n (l + 1) kb (sub (hz k0 k1 m) l C ps) (Fs C) := Trie.below hsC.2 hBw
            refine (IH (l + 1) kb _ (Fs C) w' (ownB ow tk lv) (by omega) (hcx.below hBw) hk1 hsr hsl hkyC hoC).mono fun e w3 h => h.mono fun b1 hc => ⟨⟨w', hw, hc⟩, ?_⟩
            obtain ⟨F', -, hk, -, -⟩ := hc
            exact hk.bx1 (hbx.below hw) hNC1)
          (fun kb' w3 ⟨w0, hw0, hc⟩ => by
            obtain ⟨F', -, hk, -, -⟩ := hc
            cases ho : ownB ow tk lv with
            | true => exact .inl rfl
            | false =>
              refine .inr fun w'' hw'' => ?_
              have hno : ∀ x, ¬ Fs C x := by rw [ho] at hN; exact fun x => (hN.no rfl).2.2 C x hC32
              have hB03 := hk.below hno
              exact hownF w'' (hw0.trans ((hB03.trans (hw''.mono hB03.size)).mono hw0.size)) ho)
          (fun kb' w3 ⟨w0, hw0, hc⟩ w'' hw'' => by
            obtain ⟨F', hT3, hk, hv3, hF'⟩ := hc
            have hBw0 := hB1.trans (hw0.mono hB1.size)
            have hkw : KeepF (Fs C) w0 w'' := hk.trans (KeepF.ofBelow hw'')
            have hf0 := (hSw w0 hBw0 C hC32).facts
            have hI2 : Inn base w'' b ow S pv kv := by
              obtain ⟨Y, hY, hYF⟩ := hkw.keep
              exact (hI.below hBw0).keep hY fun x hx hm => hfoot x hx (hYF x hm)
            refine (Inn.setKid base b C ow tk lo lv S pv kv w'' hI2 (hv3.below hw'') ((hv.below hBw0).keepF hkw fun x hx => (hf0.2.1 x hx).1) hC32 (Nat.le_trans hcx.base (Nat.le_trans hBw0.size hkw.size)) kb').mono ?_
            intro e w2 hp
            refine (Trie.change (H := hz k0 k1 m) (F := F) (G := F') (n := n) (l := l) (ps := ps) (hcx.below hBw0) (hI.below hBw0) hN.w (hSw w0 hBw0) hC32 hkw (x := .kd kb') ⟨hd2, Trie.below hT3 hw''⟩ hF' hp hsub1 hsub2).mono fun b1 hc => ⟨hc.from hBw0, ?_⟩
            obtain ⟨F2, -, hk2, -, -⟩ := hc
            exact hk2.bx1 (hbx.below hw0) hNF1) _ _ _ _ _ _ _ _ _ _ _ _ _ _ _ _ _ _ _ _ _ _ _ _ _ _ _ _ _ _ _ _ _ _ _ _ _ _ _ _ _ _ _ _ _ _ _ _ _ _ _ _ _ _ _ _ _ _ _ _ _ _ _ _ _ _ _ _ _ _ _
end Go.Proofs.YtfmbikmpobieoaaGreat
/- Drop. -/
namespace Go.Proofs.YtfmbikmpobieoaaGreat
open Go.RowKit Go.Lib
set_option linter.unusedVariables false
set_option linter.unusedSimpArgs false
set_option maxRecDepth 100000
attribute [local irreducible] cnt
theorem keepH {N0 : Nat} {k0 k1 m : Int} {w w' : World} (h : (fun w' : World => w'.cell? ⟨N0, 0, none⟩ = some (.int .u64 k0) ∧ w'.cell? ⟨N0, 1, none⟩ = some (.int .u64 k1) ∧ w'.cell? ⟨N0, 2, none⟩ = some (.int .u64 m)) w) (hB : Below w.heap.size w w') : (fun w' : World => w'.cell? ⟨N0, 0, none⟩ = some (.int .u64 k0) ∧ w'.cell? ⟨N0, 1, none⟩ = some (.int .u64 k1) ∧ w'.cell? ⟨N0, 2, none⟩ = some (.int .u64 m)) w' :=
  ⟨(hB.cell (World.block_lt_of_cell? w _ h.1)).trans h.1, (hB.cell (World.block_lt_of_cell? w _ h.2.1)).trans h.2.1, (hB.cell (World.block_lt_of_cell? w _ h.2.2)).trans h.2.2⟩
theorem keepSet {N0 B i : Nat} {v : Value} {k0 k1 m : Int} {w : World} (h : (fun w' : World => w'.cell? ⟨N0, 0, none⟩ = some (.int .u64 k0) ∧ w'.cell? ⟨N0, 1, none⟩ = some (.int .u64 k1) ∧ w'.cell? ⟨N0, 2, none⟩ = some (.int .u64 m)) w) (hne : N0 ≠ B) : (fun w' : World => w'.cell? ⟨N0, 0, none⟩ = some (.int .u64 k0) ∧ w'.cell? ⟨N0, 1, none⟩ = some (.int .u64 k1) ∧ w'.cell? ⟨N0, 2, none⟩ = some (.int .u64 m)) (w.setCell ⟨B, i, none⟩ v) := by
  have e : ∀ j, (w.setCell ⟨B, i, none⟩ v).cell? ⟨N0, j, none⟩ = w.cell? ⟨N0, j, none⟩ := fun j => by simp [World.cell?, Below.heap_setCell w ⟨B, i, none⟩ v N0 hne]
  simp only [e]
  exact h
theorem late_noR {b : Bool} {p : Prop} (h : b = true) : b = false → p := fun e => by rw [h] at e; cases e
/-- Drop from its second region on -/
noncomputable def drop13 : Code := (Tryz.f13.body.bind (fromRegion 2)).getD .skip
set_option maxHeartbeats 8000000 in
theorem Drop_head (post : Ending → World → Prop) (k0 k1 m : Int) (T : Option Addr) (rv : Value) (pk : ByteArray) (w : World) (h0 : U64 k0) (h1 : U64 k1) (hs : pk.size ≤ 1000)
    (hm : ∀ (N1 : Nat) (w1 : World) (x0 x4 x5 x6 x7 x8 x9 x11 x12 x13 x14 x15 x16 x17 x18 x19 x20 x21 x22 x23 x24 x25 x26 x27 x28 x29 x30 x31 x32 x33 x34 x35 : Value), Below w.heap.size w w1 → w.heap.size ≤ N1 → Bx1 N1 k0 k1 m (hz k0 k1 m pk : Nat) T w1 → Code.wp Tryz.prog drop13 (bodyPost Tryz.prog Tryz.f13 post) ⟨#[x0, .pointer T, rv, .string pk, x4, x5, x6, x7, x8, x9, .pointer (some ⟨N1, 0, none⟩), x11, x12, x13, x14, x15, x16, x17, x18, x19, x20, x21, x22, x23, x24, x25, x26, x27, x28, x29, x30, x31, x32, x33, x34, x35], []⟩ w1) :
    Calls Tryz.prog 13 #[.agg #[.int .u64 k0, .int .u64 k1, .int .u64 m], .pointer T, rv, .string pk] w post := by
  have hB0 := (Below.refl _ w).alloc (Nat.le_refl _) (.cells #[.int .u64 k0, .int .u64 k1, .int .u64 m] 26)
  have b1 := Blk.new w 26 #[.int .u64 k0, .int .u64 k1, .int .u64 m]
  have hha := fun w' => hash_hz k0 k1 m pk w' h0 h1 hs
  have HM := Lib.hid hm
  obtain ⟨Hk, hHk⟩ : ∃ Hk, Hk = hz k0 k1 m pk := ⟨_, rfl⟩
  rw [← hHk] at hha HM
  clear hm hHk h0 h1 hs
  go_enter Tryz.func13, Tryz.ntmps13
  go_upto_region 1 with (fail)
  generalize w.alloc (.cells #[.int .u64 k0, .int .u64 k1, .int .u64 m] 26) = W at *
  obtain ⟨N0, hN0⟩ : ∃ N0, N0 = w.heap.size := ⟨_, rfl⟩
  rw [← hN0] at b1 ⊢
  have hlt := b1.lt
  clear hN0
  have hS : (fun w' : World => w'.cell? ⟨N0, 0, none⟩ = some (.int .u64 k0) ∧ w'.cell? ⟨N0, 1, none⟩ = some (.int .u64 k1) ∧ w'.cell? ⟨N0, 2, none⟩ = some (.int .u64 m)) W.drew := ⟨b1.cell 0, b1.cell 1, b1.cell 2⟩
  have hBd : Below w.heap.size w W.drew := hB0.drew
  have hBA0 : Below w.heap.size w (W.alloc (.cells #[.int .u64 0, .int .u64 0, .int .u64 0, .int .u64 0, .pointer none] 76)).drew := (hB0.alloc hB0.size _).drew
  have hAW := (Below.refl _ W).alloc (Nat.le_refl _) (.cells #[.int .u64 0, .int .u64 0, .int .u64 0, .int .u64 0, .pointer none] 76)
  have hSA : (fun w' : World => w'.cell? ⟨N0, 0, none⟩ = some (.int .u64 k0) ∧ w'.cell? ⟨N0, 1, none⟩ = some (.int .u64 k1) ∧ w'.cell? ⟨N0, 2, none⟩ = some (.int .u64 m)) (W.alloc (.cells #[.int .u64 0, .int .u64 0, .int .u64 0, .int .u64 0, .pointer none] 76)).drew := keepH (w := W) hS hAW.drew
  have bA : Blk (W.alloc (.cells #[.int .u64 0, .int .u64 0, .int .u64 0, .int .u64 0, .pointer none] 76)).drew W.heap.size 76 #[.int .u64 0, .int .u64 0, .int .u64 0, .int .u64 0, .pointer none] := Blk.new W 76 _
  have hne : N0 ≠ W.heap.size := Nat.ne_of_lt hlt
  clear hB0
  refine wp_region_late (S := fun w' => w'.cell? ⟨N0, 0, none⟩ = some (.int .u64 k0) ∧ w'.cell? ⟨N0, 1, none⟩ = some (.int .u64 k1) ∧ w'.cell? ⟨N0, 2, none⟩ = some (.int .u64 m)) (st := 7) (by kernel_rfl) ?_
  change wpAnyL _ _ _ _ _ _ _ _ _ W.drew
  refine wpAnyL_take (i := 0) (oi := { dst := some 13, op := Go.Op.load 26 (Go.Operand.tmp 4), type := 26, pos := "champ.go:40", after := #[], guard := none }) (v := .agg #[.int .u64 k0, .int .u64 k1, .int .u64 m]) rfl (by kernel_rfl) (by kernel_rfl) (by kernel_rfl) (by kernel_rfl) (fun _ _ _ h => h) hS (Or.inl ⟨by rfl, fun w hSw => ?_⟩) ?_
  · go_split_ands
    go_simp
  try simp only [Act.put, List.setIfInBounds_toArray, List.set_cons_zero, List.set_cons_succ]
  refine wpAnyL_take (i := 1) (oi := { dst := some 14, op := Go.Op.load 26 (Go.Operand.tmp 4), type := 26, pos := "champ.go:40", after := #[], guard := none }) (v := .agg #[.int .u64 k0, .int .u64 k1, .int .u64 m]) rfl (by kernel_rfl) (by kernel_rfl) (by kernel_rfl) (by kernel_rfl) (fun _ _ _ h => h) hS (Or.inl ⟨by rfl, fun w hSw => ?_⟩) ?_
  · go_split_ands
    go_simp
  try simp only [Act.put, List.setIfInBounds_toArray, List.set_cons_zero, List.set_cons_succ]
  refine wpAnyL_take0 (i := 2) (oi := { dst := some 15, op := Go.Op.move (Go.Operand.tmp 3), type := 9, pos := "champ.go:40", after := #[], guard := none }) (v := .string pk) rfl (by kernel_rfl) (by kernel_rfl) (by kernel_rfl) (by kernel_rfl) (fun _ _ _ h => h) hS (Or.inl ⟨by rfl, fun w hSw => ?_⟩) ?_
  · go_split_ands
    go_simp
  try simp only [Act.put, List.setIfInBounds_toArray, List.set_cons_zero, List.set_cons_succ]
  refine wpAnyL_take0 (i := 4) (oi := { dst := some 17, op := Go.Op.move (Go.Operand.tmp 1), type := 56, pos := "champ.go:40", after := #[], guard := none }) (v := .pointer T) rfl (by kernel_rfl) (by kernel_rfl) (by kernel_rfl) (by kernel_rfl) (fun _ _ _ h => h) hS (Or.inl ⟨by rfl, fun w hSw => ?_⟩) ?_
  · go_split_ands
    go_simp
  try simp only [Act.put, List.setIfInBounds_toArray, List.set_cons_zero, List.set_cons_succ]
  refine wpAnyL_ready (rs := [3, 6]) (by kernel_rfl) (by simp) ?_
  refine AllReadyL.cons (o := { dst := some 16, op := Go.Op.call { callee := Go.Callee.value (Go.Operand.func 29), args := #[Go.Operand.tmp 14, Go.Operand.tmp 15], argTypes := #[26, 9] }, type := 22, pos := "champ.go:40", after := #[{ on := 1, ground := Go.Ground.data }, { on := 2, ground := Go.Ground.data }], guard := none }) rfl (fun K hK => ?_) (AllReadyL.cons (o := { dst := some 10, op := Go.Op.alloc 76, type := 0, pos := "champ.go:40", after := #[], guard := none }) rfl (fun K hK => ?_) AllReadyL.nil)
  · go_simp
    refine (hha _).mono ?_
    rintro e wH ⟨rfl, hBl⟩
    go_wp2_with fail
    have hSH := keepH (w := W.drew) hS hBl
    refine hK.out _ _ (fun _ => hSH) ?_
    clear hK K hS
    try simp only [Act.put, List.setIfInBounds_toArray, List.set_cons_zero, List.set_cons_succ]
    have hS := hSH
    refine wpAnyL_take0 (i := 5) (oi := { dst := some 18, op := Go.Op.build 76 #[(0, Go.Operand.tmp 13), (1, Go.Operand.tmp 16), (2, Go.Operand.tmp 17)], type := 76, pos := "champ.go:40", after := #[{ on := 0, ground := Go.Ground.data }, { on := 3, ground := Go.Ground.data }, { on := 4, ground := Go.Ground.data }], guard := none }) (v := .agg #[.int .u64 k0, .int .u64 k1, .int .u64 m, .int .u64 (Hk : Nat), .pointer T]) rfl (by kernel_rfl) (by kernel_rfl) (by kernel_rfl) (by kernel_rfl) (fun _ _ _ h => h) hS (Or.inl ⟨by rfl, fun w hSw => ?_⟩) ?_
    · go_split_ands
      go_simp
    try simp only [Act.put, List.setIfInBounds_toArray, List.set_cons_zero, List.set_cons_succ]
    refine wpAnyL_ready (rs := [6]) (by kernel_rfl) (by simp) ?_
    refine AllReadyL.cons (o := { dst := some 10, op := Go.Op.alloc 76, type := 0, pos := "champ.go:40", after := #[], guard := none }) rfl (fun K hK => ?_) AllReadyL.nil
    go_simp
    have hAl := (Below.refl _ wH).alloc (Nat.le_refl _) (.cells #[.int .u64 0, .int .u64 0, .int .u64 0, .int .u64 0, .pointer none] 76)
    have hS2 := keepH (w := wH) hS hAl
    refine hK.out _ _ (fun _ => hS2) ?_
    clear hK K hS
    try simp only [Act.put, List.setIfInBounds_toArray, List.set_cons_zero, List.set_cons_succ]
    have hS := hS2
    refine wpAnyL_ready (rs := [7]) (by kernel_rfl) (by simp) ?_
    refine AllReadyL.cons (o := { dst := none, op := Go.Op.store 76 (Go.Operand.tmp 10) (Go.Operand.tmp 18), type := 0, pos := "champ.go:40", after := #[{ on := 6, ground := Go.Ground.data }, { on := 5, ground := Go.Ground.data }, { on := 3, ground := Go.Ground.chain }, { on := 0, ground := Go.Ground.phase }, { on := 1, ground := Go.Ground.phase }, { on := 2, ground := Go.Ground.phase }, { on := 3, ground := Go.Ground.phase }, { on := 4, ground := Go.Ground.phase }, { on := 5, ground := Go.Ground.phase }, { on := 6, ground := Go.Ground.phase }], guard := none }) rfl (fun K hK => ?_) AllReadyL.nil
    go_simp
    refine hK.out _ _ (late_noR (by kernel_rfl)) ?_
    clear hK K hS hS2
    try simp only [Act.put, List.setIfInBounds_toArray, List.set_cons_zero, List.set_cons_succ]
    refine wpAnyL_done (by kernel_rfl) ?_ _
    have hB9 : Below w.heap.size w (wH.alloc (.cells #[.int .u64 k0, .int .u64 k1, .int .u64 m, .int .u64 (Hk : Nat), .pointer T] 76)) := (hBd.trans (hBl.mono hBd.size)).alloc (Nat.le_trans hBd.size hBl.size) _
    have hb9 : Bx1 wH.heap.size k0 k1 m (Hk : Nat) T (wH.alloc (.cells #[.int .u64 k0, .int .u64 k1, .int .u64 m, .int .u64 (Hk : Nat), .pointer T] 76)) := Bx1.new wH k0 k1 m (Hk : Nat) T
    have HG := Lib.hid (fun x0 x4 x5 x6 x7 x8 x9 x11 x12 x13 x14 x15 x16 x17 x18 x19 x20 x21 x22 x23 x24 x25 x26 x27 x28 x29 x30 x31 x32 x33 x34 x35 => HM.out wH.heap.size _ x0 x4 x5 x6 x7 x8 x9 x11 x12 x13 x14 x15 x16 x17 x18 x19 x20 x21 x22 x23 x24 x25 x26 x27 x28 x29 x30 x31 x32 x33 x34 x35 hB9 (Nat.le_trans hBd.size hBl.size) hb9)
    clear HM hBl hBd hAW hSA bA hne hha hB9 hb9 b1 hlt hSH hAl
    repeat (first | exact HG.out _ _ _ _ _ _ _ _ _ _ _ _ _ _ _ _ _ _ _ _ _ _ _ _ _ _ _ _ _ _ _ _ | go_step)
  · go_simp
    refine hK.out _ _ (fun _ => hSA) ?_
    clear hK K hS
    try simp only [Act.put, List.setIfInBounds_toArray, List.set_cons_zero, List.set_cons_succ]
    have hS := hSA
    refine wpAnyL_ready (rs := [3]) (by kernel_rfl) (by simp) ?_
    refine AllReadyL.cons (o := { dst := some 16, op := Go.Op.call { callee := Go.Callee.value (Go.Operand.func 29), args := #[Go.Operand.tmp 14, Go.Operand.tmp 15], argTypes := #[26, 9] }, type := 22, pos := "champ.go:40", after := #[{ on := 1, ground := Go.Ground.data }, { on := 2, ground := Go.Ground.data }], guard := none }) rfl (fun K hK => ?_) AllReadyL.nil
    go_simp
    refine (hha _).mono ?_
    rintro e wH ⟨rfl, hBl⟩
    go_wp2_with fail
    have hSH := keepH (w := (W.alloc (.cells #[.int .u64 0, .int .u64 0, .int .u64 0, .int .u64 0, .pointer none] 76)).drew) hS hBl
    refine hK.out _ _ (fun _ => hSH) ?_
    clear hK K hS
    try simp only [Act.put, List.setIfInBounds_toArray, List.set_cons_zero, List.set_cons_succ]
    have hS := hSH
    refine wpAnyL_take0 (i := 5) (oi := { dst := some 18, op := Go.Op.build 76 #[(0, Go.Operand.tmp 13), (1, Go.Operand.tmp 16), (2, Go.Operand.tmp 17)], type := 76, pos := "champ.go:40", after := #[{ on := 0, ground := Go.Ground.data }, { on := 3, ground := Go.Ground.data }, { on := 4, ground := Go.Ground.data }], guard := none }) (v := .agg #[.int .u64 k0, .int .u64 k1, .int .u64 m, .int .u64 (Hk : Nat), .pointer T]) rfl (by kernel_rfl) (by kernel_rfl) (by kernel_rfl) (by kernel_rfl) (fun _ _ _ h => h) hS (Or.inl ⟨by rfl, fun w hSw => ?_⟩) ?_
    · go_split_ands
      go_simp
    try simp only [Act.put, List.setIfInBounds_toArray, List.set_cons_zero, List.set_cons_succ]
    have zz := bA.below hBl
    have z0 := zz.cell 0
    have z1 := zz.cell 1
    have z2 := zz.cell 2
    have z3 := zz.cell 3
    have z4 := zz.cell 4
    simp only [List.getElem?_toArray, List.getElem?_cons_succ, List.getElem?_cons_zero] at z0 z1 z2 z3 z4
    have y0 := zz.frozen 0
    have y1 := zz.frozen 1
    have y2 := zz.frozen 2
    have y3 := zz.frozen 3
    have y4 := zz.frozen 4
    have hWle : w.heap.size ≤ W.heap.size := hBd.size
    have hBA : Below w.heap.size w wH := hBA0.trans (hBl.mono hBA0.size)
    clear hBl hS hSA hSH hBA0 bA hAW hlt hBd hne b1
    generalize W.heap.size = B at *
    refine wpAnyL_ready (rs := [7]) (by kernel_rfl) (by simp) ?_
    refine AllReadyL.cons (o := { dst := none, op := Go.Op.store 76 (Go.Operand.tmp 10) (Go.Operand.tmp 18), type := 0, pos := "champ.go:40", after := #[{ on := 6, ground := Go.Ground.data }, { on := 5, ground := Go.Ground.data }, { on := 3, ground := Go.Ground.chain }, { on := 0, ground := Go.Ground.phase }, { on := 1, ground := Go.Ground.phase }, { on := 2, ground := Go.Ground.phase }, { on := 3, ground := Go.Ground.phase }, { on := 4, ground := Go.Ground.phase }, { on := 5, ground := Go.Ground.phase }, { on := 6, ground := Go.Ground.phase }], guard := none }) rfl (fun K hK => ?_) AllReadyL.nil
    go_simp
    refine hK.out _ _ (late_noR (by kernel_rfl)) ?_
    clear hK K
    try simp only [Act.put, List.setIfInBounds_toArray, List.set_cons_zero, List.set_cons_succ]
    refine wpAnyL_done (by kernel_rfl) ?_ _
    have hB9 := ((((hBA.setCell (p := ⟨B, 0, none⟩) hWle (.int .u64 k0)).setCell (p := ⟨B, 1, none⟩) hWle (.int .u64 k1)).setCell (p := ⟨B, 2, none⟩) hWle (.int .u64 m)).setCell (p := ⟨B, 3, none⟩) hWle (.int .u64 (Hk : Nat))).setCell (p := ⟨B, 4, none⟩) hWle (.pointer T)
    have hq := ((((zz.set_ 0 (.int .u64 k0)).set_ 1 (.int .u64 k1)).set_ 2 (.int .u64 m)).set_ 3 (.int .u64 (Hk : Nat))).set_ 4 (.pointer T)
    have hb9 : Bx1 B k0 k1 m (Hk : Nat) T (((((wH.setCell ⟨B, 0, none⟩ (.int .u64 k0)).setCell ⟨B, 1, none⟩ (.int .u64 k1)).setCell ⟨B, 2, none⟩ (.int .u64 m)).setCell ⟨B, 3, none⟩ (.int .u64 (Hk : Nat))).setCell ⟨B, 4, none⟩ (.pointer T)) := ⟨hq.cell 0, hq.cell 1, hq.cell 2, hq.cell 3, hq.cell 4⟩
    have HG := Lib.hid (fun x0 x4 x5 x6 x7 x8 x9 x11 x12 x13 x14 x15 x16 x17 x18 x19 x20 x21 x22 x23 x24 x25 x26 x27 x28 x29 x30 x31 x32 x33 x34 x35 => HM.out B _ x0 x4 x5 x6 x7 x8 x9 x11 x12 x13 x14 x15 x16 x17 x18 x19 x20 x21 x22 x23 x24 x25 x26 x27 x28 x29 x30 x31 x32 x33 x34 x35 hB9 hWle hb9)
    clear HM hB9 hb9 hq zz z0 z1 z2 z3 z4 y0 y1 y2 y3 y4 hha hBA
    repeat (first | exact HG.out _ _ _ _ _ _ _ _ _ _ _ _ _ _ _ _ _ _ _ _ _ _ _ _ _ _ _ _ _ _ _ _ | go_step)
end Go.Proofs.YtfmbikmpobieoaaGreat
/- Drop. -/
namespace Go.Proofs.YtfmbikmpobieoaaGreat
open Go.RowKit Go.Lib
set_option linter.unusedVariables false
set_option linter.unusedSimpArgs false
set_option maxRecDepth 100000
attribute [local irreducible] cnt
set_option maxHeartbeats 4000000 in
theorem Drop_there (k0 k1 m : Int) (X : Nat → Prop) (tk : Option Nat) (lv : Bool) (base : Nat) (T : Option Addr) (pk : ByteArray) (b : Nat) (ps : List Pr) (F : Nat → Prop) (w : World) (hT : pt tk = .pointer T) (h0 : U64 k0) (h1 : U64 k1) (hs : pk.size ≤ 1000)
    (hcx : Cx X tk lv base w) (hTr : Trie (hz k0 k1 m) X tk lv base w 13 0 b ps F) (hr : RisesL ps) (hn : ps.length ≤ 700) (v : ByteArray) (hg : getK ps pk = some v) :
    Calls Tryz.prog 13 #[.agg #[.int .u64 k0, .int .u64 k1, .int .u64 m], .pointer T, .pointer (some ⟨b, 0, none⟩), .string pk] w (RetBB (fun b1 w1 => ChPost (hz k0 k1 m) X tk lv base 13 0 (dropK ps pk) F w b1 w1) true) := by
  refine Drop_head _ k0 k1 m T _ pk w h0 h1 hs ?_
  intro N1 w1 x0 x4 x5 x6 x7 x8 x9 x11 x12 x13 x14 x15 x16 x17 x18 x19 x20 x21 x22 x23 x24 x25 x26 x27 x28 x29 x30 x31 x32 x33 x34 x35 hB1 hN1 hbx
  have kf := find_trie (hz k0 k1 m) X tk lv base b ps F pk w1 (Trie.below hTr hB1) (hz_int k0 k1 m pk).2 (by omega)
  rw [hg] at kf
  unfold at0 at kf
  have HD := Lib.hid (fun (w2 : World) (hB : Below w.heap.size w w2) => (drop_any k0 k1 m X tk lv base T pk hT 13 0 b ps F w2 true (by omega) (hcx.below hB) (Trie.below hTr hB) hr hn ⟨v, hg⟩ (.inl rfl)).mono (R' := RetB fun b1 w3 => ChPost (hz k0 k1 m) X tk lv base 13 0 (dropK ps pk) F w b1 w3) fun e w3 h => h.mono fun b1 hc => hc.from hB)
  have c3 : w1.cell? ⟨N1, 3, none⟩ = some (.int .u64 (hz k0 k1 m pk : Nat)) := hbx.2.2.2.1
  clear hcx hTr hr hg h0 h1 hs hT
  generalize hz k0 k1 m pk = Hk at *
  simp only []
  conv => arg 2; whnf
  go_wp2_with fail
  refine kf.mono ?_
  rintro e w2 ⟨rfl, hB2⟩
  simp only [Option.getD_some, Option.isSome_some, Option.getD_none, Option.isSome_none]
  have hbW := hbx.below hB2
  have hB12 := hB1.trans (hB2.mono hB1.size)
  obtain ⟨c0, c1, c2, d3, c4⟩ := hbW
  clear kf c3 hbx
  have kd := HD.out w2 hB12
  clear HD
  go_wp2_with fail
  refine kd.mono ?_
  rintro e w3 ⟨b1, rfl, hR⟩
  go_wp2_with fail
  go_ret2
  exact ⟨b1, rfl, hR⟩
set_option maxHeartbeats 4000000 in
theorem Drop_none (k0 k1 m : Int) (X : Nat → Prop) (tk : Option Nat) (lv : Bool) (base : Nat) (T : Option Addr) (pk : ByteArray) (b : Nat) (ps : List Pr) (F : Nat → Prop) (w : World) (hT : pt tk = .pointer T) (h0 : U64 k0) (h1 : U64 k1) (hs : pk.size ≤ 1000)
    (hTr : Trie (hz k0 k1 m) X tk lv base w 13 0 b ps F) (hn : ps.length ≤ 700) (hg : getK ps pk = none) :
    Calls Tryz.prog 13 #[.agg #[.int .u64 k0, .int .u64 k1, .int .u64 m], .pointer T, .pointer (some ⟨b, 0, none⟩), .string pk] w (fun e w' => e = .returned (.tuple #[.pointer (some ⟨b, 0, none⟩), .bool false]) ∧ Below w.heap.size w w') := by
  refine Drop_head _ k0 k1 m T _ pk w h0 h1 hs ?_
  intro N1 w1 x0 x4 x5 x6 x7 x8 x9 x11 x12 x13 x14 x15 x16 x17 x18 x19 x20 x21 x22 x23 x24 x25 x26 x27 x28 x29 x30 x31 x32 x33 x34 x35 hB1 hN1 hbx
  have kf := find_trie (hz k0 k1 m) X tk lv base b ps F pk w1 (Trie.below hTr hB1) (hz_int k0 k1 m pk).2 (by omega)
  rw [hg] at kf
  unfold at0 at kf
  have c3 : w1.cell? ⟨N1, 3, none⟩ = some (.int .u64 (hz k0 k1 m pk : Nat)) := hbx.2.2.2.1
  clear hTr hg h0 h1 hs hT
  generalize hz k0 k1 m pk = Hk at *
  simp only []
  conv => arg 2; whnf
  go_wp2_with fail
  refine kf.mono ?_
  rintro e w2 ⟨rfl, hB2⟩
  simp only [Option.getD_some, Option.isSome_some, Option.getD_none, Option.isSome_none]
  have hbW := hbx.below hB2
  have hB12 := hB1.trans (hB2.mono hB1.size)
  obtain ⟨c0, c1, c2, d3, c4⟩ := hbW
  clear kf c3 hbx
  have kb := begun_some k0 k1 m (Hk : Nat) T b w2
  go_wp2_with fail
  refine kb.mono ?_
  rintro e w3 ⟨rfl, hB3⟩
  go_wp2_with fail
  go_ret2
  exact ⟨rfl, hB12.trans (hB3.mono hB12.size)⟩
set_option maxHeartbeats 4000000 in
theorem Drop_nil (k0 k1 m : Int) (X : Nat → Prop) (tk : Option Nat) (lv : Bool) (base : Nat) (T : Option Addr) (pk : ByteArray) (w : World) (hT : pt tk = .pointer T) (h0 : U64 k0) (h1 : U64 k1) (hs : pk.size ≤ 1000)
    (hcx : Cx X tk lv base w) :
    Calls Tryz.prog 13 #[.agg #[.int .u64 k0, .int .u64 k1, .int .u64 m], .pointer T, .pointer none, .string pk] w (RetBB (fun b1 w1 => Fresh (hz k0 k1 m) X tk lv base 13 0 [] w b1 w1 ∧ Below w.heap.size w w1) false) := by
  refine Drop_head _ k0 k1 m T _ pk w h0 h1 hs ?_
  intro N1 w1 x0 x4 x5 x6 x7 x8 x9 x11 x12 x13 x14 x15 x16 x17 x18 x19 x20 x21 x22 x23 x24 x25 x26 x27 x28 x29 x30 x31 x32 x33 x34 x35 hB1 hN1 hbx
  have kf := find_nil (hz k0 k1 m pk : Nat) pk w1 (by omega) (by have := (hz_int k0 k1 m pk).2; omega)
  have HBG := Lib.hid (fun (w2 : World) (hB : Below w1.heap.size w1 w2) => begun_nil (hz k0 k1 m) k0 k1 m (hz k0 k1 m pk : Nat) X tk lv base 12 0 T w2 hT (hcx.below (hB1.trans (hB.mono hB1.size))))
  have c3 : w1.cell? ⟨N1, 3, none⟩ = some (.int .u64 (hz k0 k1 m pk : Nat)) := hbx.2.2.2.1
  clear hcx h0 h1 hs hT
  generalize hz k0 k1 m pk = Hk at *
  simp only []
  conv => arg 2; whnf
  go_wp2_with fail
  refine kf.mono ?_
  rintro e w2 ⟨rfl, hB2⟩
  simp only [Option.getD_some, Option.isSome_some, Option.getD_none, Option.isSome_none]
  have hbW := hbx.below hB2
  have hB12 := hB1.trans (hB2.mono hB1.size)
  obtain ⟨c0, c1, c2, d3, c4⟩ := hbW
  clear kf c3 hbx
  have kb := HBG.out w2 hB2
  clear HBG
  go_wp2_with fail
  refine kb.mono ?_
  rintro e w3 ⟨b1, rfl, hF, hB3⟩
  obtain ⟨F1, hT1, hv1, hF1⟩ := hF
  have hR : Fresh (hz k0 k1 m) X tk lv base 13 0 [] w b1 w3 ∧ Below w.heap.size w w3 := ⟨⟨F1, hT1, hv1, fun x hx => Nat.le_trans hB12.size (hF1 x hx)⟩, hB12.trans (hB3.mono hB12.size)⟩
  clear hT1 hv1 hF1
  go_wp2_with fail
  go_ret2
  exact ⟨b1, rfl, hR⟩
end Go.Proofs.YtfmbikmpobieoaaGreat
/- The empty trie; the law's own small functions. -/
namespace Go.Proofs.YtfmbikmpobieoaaGreat
open Go.RowKit Go.Lib
set_option linter.unusedVariables false
set_option linter.unusedSimpArgs false
set_option maxRecDepth 100000
attribute [local irreducible] cnt
theorem empty_any (H : ByteArray → Nat) (base : Nat) (w : World) (hb : base ≤ w.heap.size) :
    Calls Tryz.prog 10 #[] w (RetB fun b w' => Trie H (fun _ => False) none false base w' 13 0 b [] (fun _ => False) ∧ Below w.heap.size w w') := by
  go_enter Tryz.func10, Tryz.ntmps10
  go_wp2_with fail
  refine (Inn.new w).mono ?_
  rintro e w1 ⟨b, rfl, -, hI, hB⟩
  unfold at0
  go_wp2_with fail
  go_ret
  exact ⟨b, rfl, ⟨none, _, _, false, _, fun _ _ => False, hI.base hb, ⟨TV.nil _, fun t e => by simp at e⟩, ⟨fun e => by simp [ownB] at e, fun _ => ⟨fun _ _ h => h, fun _ h => h, fun _ _ _ h => h⟩⟩, fun c hc => ⟨rfl, fun _ h => h⟩⟩, hB⟩
/-- at most forty bytes -/
def cut40 (s : ByteArray) : ByteArray := if 40 < s.size then s.extract 0 40 else s
theorem cut40_size (s : ByteArray) : (cut40 s).size ≤ 40 := by
  unfold cut40
  split
  · rw [ByteArray.size_extract]; omega
  · omega
def few40 (p : Pr) : Pr := (cut40 p.1, cut40 p.2)
set_option maxHeartbeats 2000000 in
theorem few_any (p : Pr) (w : World) : Calls Tryz.prog 11 #[.agg #[.string p.1, .string p.2]] w fun e w' => e = .returned (.agg #[.string (few40 p).1, .string (few40 p).2]) ∧ Below w.heap.size w w' := by
  have hB0 := ((Below.refl _ w).alloc (Nat.le_refl _) (.cells #[.string p.1, .string p.2] 34)).alloc (by simp) (.cells #[.string ⟨#[]⟩, .string ⟨#[]⟩] 34)
  have b1 := (Blk.new w 34 #[.string p.1, .string p.2]).alloc (.cells #[.string ⟨#[]⟩, .string ⟨#[]⟩] 34)
  have b2 := Blk.new (w.alloc (.cells #[.string p.1, .string p.2] 34)) 34 #[.string ⟨#[]⟩, .string ⟨#[]⟩]
  have e1 : (w.alloc (.cells #[.string p.1, .string p.2] 34)).heap.size = w.heap.size + 1 := by simp
  rw [e1] at b2
  clear e1
  unfold few40 cut40
  by_cases h1 : 40 < p.1.size <;> by_cases h2 : 40 < p.2.size
  · rw [if_pos h1, if_pos h2]
    have g1 : (40 : Int) < (p.1.size : Int) := by omega
    have g2 : (40 : Int) < (p.2.size : Int) := by omega
    go_enter Tryz.func11, Tryz.ntmps11
    go_upto_region 1 with (fail)
    generalize (w.alloc (.cells #[.string p.1, .string p.2] 34)).alloc (.cells #[.string ⟨#[]⟩, .string ⟨#[]⟩] 34) = W at *
    obtain ⟨N2, hN2⟩ : ∃ N2, N2 = w.heap.size + 1 := ⟨_, rfl⟩
    rw [← hN2] at b2 ⊢
    obtain ⟨N1, hN1⟩ : ∃ N1, N1 = w.heap.size := ⟨_, rfl⟩
    rw [← hN1] at b1 ⊢
    have n1 : ¬ (N1 = N2) := by omega
    have n2 : ¬ (N2 = N1) := by omega
    have l1 : w.heap.size ≤ N1 := by omega
    have l2 : w.heap.size ≤ N2 := by omega
    clear hN1 hN2
    have c0 : W.cell? ⟨N1, 0, none⟩ = some (.string p.1) := b1.cell 0
    have c1 : W.cell? ⟨N1, 1, none⟩ = some (.string p.2) := b1.cell 1
    have f0 := b1.frozen 0
    have f1 := b1.frozen 1
    have e0 : W.cell? ⟨N2, 0, none⟩ = some (.string ⟨#[]⟩) := b2.cell 0
    have e1 : W.cell? ⟨N2, 1, none⟩ = some (.string ⟨#[]⟩) := b2.cell 1
    have j0 := b2.frozen 0
    have j1 := b2.frozen 1
    clear b1 b2
    go_wp2_with fail
    refine bodyPost_ret (v := .agg #[.string (p.1.extract 0 40), .string (p.2.extract 0 40)]) (by simp [results, Tryz.results11, go_sem, c0, c1, e0, e1, n1, n2]) rfl ⟨rfl, ?_⟩
    exact (((hB0.setCell (p := ⟨N1, 0, none⟩) l1 _).setCell (p := ⟨N1, 1, none⟩) l1 _).setCell (p := ⟨N2, 0, none⟩) l2 _).setCell (p := ⟨N2, 1, none⟩) l2 _
  · rw [if_pos h1, if_neg h2]
    have g1 : (40 : Int) < (p.1.size : Int) := by omega
    have g2 : ¬ (40 : Int) < (p.2.size : Int) := by omega
    go_enter Tryz.func11, Tryz.ntmps11
    go_upto_region 1 with (fail)
    generalize (w.alloc (.cells #[.string p.1, .string p.2] 34)).alloc (.cells #[.string ⟨#[]⟩, .string ⟨#[]⟩] 34) = W at *
    obtain ⟨N2, hN2⟩ : ∃ N2, N2 = w.heap.size + 1 := ⟨_, rfl⟩
    rw [← hN2] at b2 ⊢
    obtain ⟨N1, hN1⟩ : ∃ N1, N1 = w.heap.size := ⟨_, rfl⟩
    rw [← hN1] at b1 ⊢
    have n1 : ¬ (N1 = N2) := by omega
    have n2 : ¬ (N2 = N1) := by omega
    have l1 : w.heap.size ≤ N1 := by omega
    have l2 : w.heap.size ≤ N2 := by omega
    clear hN1 hN2
    have c0 : W.cell? ⟨N1, 0, none⟩ = some (.string p.1) := b1.cell 0
    have c1 : W.cell? ⟨N1, 1, none⟩ = some (.string p.2) := b1.cell 1
    have f0 := b1.frozen 0
    have f1 := b1.frozen 1
    have e0 : W.cell? ⟨N2, 0, none⟩ = some (.string ⟨#[]⟩) := b2.cell 0
    have e1 : W.cell? ⟨N2, 1, none⟩ = some (.string ⟨#[]⟩) := b2.cell 1
    have j0 := b2.frozen 0
    have j1 := b2.frozen 1
    clear b1 b2
    go_wp2_with fail
    refine bodyPost_ret (v := .agg #[.string (p.1.extract 0 40), .string (p.2)]) (by simp [results, Tryz.results11, go_sem, c0, c1, e0, e1, n1, n2]) rfl ⟨rfl, ?_⟩
    exact ((hB0.setCell (p := ⟨N1, 0, none⟩) l1 _).setCell (p := ⟨N2, 0, none⟩) l2 _).setCell (p := ⟨N2, 1, none⟩) l2 _
  · rw [if_neg h1, if_pos h2]
    have g1 : ¬ (40 : Int) < (p.1.size : Int) := by omega
    have g2 : (40 : Int) < (p.2.size : Int) := by omega
    go_enter Tryz.func11, Tryz.ntmps11
    go_upto_region 1 with (fail)
    generalize (w.alloc (.cells #[.string p.1, .string p.2] 34)).alloc (.cells #[.string ⟨#[]⟩, .string ⟨#[]⟩] 34) = W at *
    obtain ⟨N2, hN2⟩ : ∃ N2, N2 = w.heap.size + 1 := ⟨_, rfl⟩
    rw [← hN2] at b2 ⊢
    obtain ⟨N1, hN1⟩ : ∃ N1, N1 = w.heap.size := ⟨_, rfl⟩
    rw [← hN1] at b1 ⊢
    have n1 : ¬ (N1 = N2) := by omega
    have n2 : ¬ (N2 = N1) := by omega
    have l1 : w.heap.size ≤ N1 := by omega
    have l2 : w.heap.size ≤ N2 := by omega
    clear hN1 hN2
    have c0 : W.cell? ⟨N1, 0, none⟩ = some (.string p.1) := b1.cell 0
    have c1 : W.cell? ⟨N1, 1, none⟩ = some (.string p.2) := b1.cell 1
    have f0 := b1.frozen 0
    have f1 := b1.frozen 1
    have e0 : W.cell? ⟨N2, 0, none⟩ = some (.string ⟨#[]⟩) := b2.cell 0
    have e1 : W.cell? ⟨N2, 1, none⟩ = some (.string ⟨#[]⟩) := b2.cell 1
    have j0 := b2.frozen 0
    have j1 := b2.frozen 1
    clear b1 b2
    go_wp2_with fail
    refine bodyPost_ret (v := .agg #[.string (p.1), .string (p.2.extract 0 40)]) (by simp [results, Tryz.results11, go_sem, c0, c1, e0, e1, n1, n2]) rfl ⟨rfl, ?_⟩
    exact ((hB0.setCell (p := ⟨N1, 1, none⟩) l1 _).setCell (p := ⟨N2, 0, none⟩) l2 _).setCell (p := ⟨N2, 1, none⟩) l2 _
  · rw [if_neg h1, if_neg h2]
    have g1 : ¬ (40 : Int) < (p.1.size : Int) := by omega
    have g2 : ¬ (40 : Int) < (p.2.size : Int) := by omega
    go_enter Tryz.func11, Tryz.ntmps11
    go_upto_region 1 with (fail)
    generalize (w.alloc (.cells #[.string p.1, .string p.2] 34)).alloc (.cells #[.string ⟨#[]⟩, .string ⟨#[]⟩] 34) = W at *
    obtain ⟨N2, hN2⟩ : ∃ N2, N2 = w.heap.size + 1 := ⟨_, rfl⟩
    rw [← hN2] at b2 ⊢
    obtain ⟨N1, hN1⟩ : ∃ N1, N1 = w.heap.size := ⟨_, rfl⟩
    rw [← hN1] at b1 ⊢
    have n1 : ¬ (N1 = N2) := by omega
    have n2 : ¬ (N2 = N1) := by omega
    have l1 : w.heap.size ≤ N1 := by omega
    have l2 : w.heap.size ≤ N2 := by omega
    clear hN1 hN2
    have c0 : W.cell? ⟨N1, 0, none⟩ = some (.string p.1) := b1.cell 0
    have c1 : W.cell? ⟨N1, 1, none⟩ = some (.string p.2) := b1.cell 1
    have f0 := b1.frozen 0
    have f1 := b1.frozen 1
    have e0 : W.cell? ⟨N2, 0, none⟩ = some (.string ⟨#[]⟩) := b2.cell 0
    have e1 : W.cell? ⟨N2, 1, none⟩ = some (.string ⟨#[]⟩) := b2.cell 1
    have j0 := b2.frozen 0
    have j1 := b2.frozen 1
    clear b1 b2
    go_wp2_with fail
    refine bodyPost_ret (v := .agg #[.string (p.1), .string (p.2)]) (by simp [results, Tryz.results11, go_sem, c0, c1, e0, e1, n1, n2]) rfl ⟨rfl, ?_⟩
    exact (hB0.setCell (p := ⟨N2, 0, none⟩) l2 _).setCell (p := ⟨N2, 1, none⟩) l2 _
set_option maxHeartbeats 2000000 in
theorem own_any (k0 k1 m : Int) (w : World) : Calls Tryz.prog 37 #[.agg #[.int .u64 k0, .int .u64 k1, .int .u64 m]] w fun e w' => e = .returned (.agg #[.int .u64 k0, .int .u64 k1, .int .u64 m]) ∧ Below w.heap.size w w' := by
  have hB0 := ((Below.refl _ w).alloc (Nat.le_refl _) (.cells #[.int .u64 k0, .int .u64 k1, .int .u64 m] 26)).alloc (by simp) (.cells #[.int .u64 0, .int .u64 0, .int .u64 0] 86)
  have b1 := (Blk.new w 26 #[.int .u64 k0, .int .u64 k1, .int .u64 m]).alloc (.cells #[.int .u64 0, .int .u64 0, .int .u64 0] 86)
  have b2 := Blk.new (w.alloc (.cells #[.int .u64 k0, .int .u64 k1, .int .u64 m] 26)) 86 #[.int .u64 0, .int .u64 0, .int .u64 0]
  have e1 : (w.alloc (.cells #[.int .u64 k0, .int .u64 k1, .int .u64 m] 26)).heap.size = w.heap.size + 1 := by simp
  rw [e1] at b2
  clear e1
  go_enter Tryz.func37, Tryz.ntmps37
  go_upto_region 1 with (fail)
  generalize (w.alloc (.cells #[.int .u64 k0, .int .u64 k1, .int .u64 m] 26)).alloc (.cells #[.int .u64 0, .int .u64 0, .int .u64 0] 86) = W at *
  obtain ⟨N2, hN2⟩ : ∃ N2, N2 = w.heap.size + 1 := ⟨_, rfl⟩
  rw [← hN2] at b2 ⊢
  obtain ⟨N1, hN1⟩ : ∃ N1, N1 = w.heap.size := ⟨_, rfl⟩
  rw [← hN1] at b1 ⊢
  have l2 : w.heap.size ≤ N2 := by omega
  clear hN1 hN2
  have c0 : W.cell? ⟨N1, 0, none⟩ = some (.int .u64 k0) := b1.cell 0
  have c1 : W.cell? ⟨N1, 1, none⟩ = some (.int .u64 k1) := b1.cell 1
  have c2 : W.cell? ⟨N1, 2, none⟩ = some (.int .u64 m) := b1.cell 2
  have e0 : W.cell? ⟨N2, 0, none⟩ = some (.int .u64 0) := b2.cell 0
  have e1 : W.cell? ⟨N2, 1, none⟩ = some (.int .u64 0) := b2.cell 1
  have e2 : W.cell? ⟨N2, 2, none⟩ = some (.int .u64 0) := b2.cell 2
  have j0 := b2.frozen 0
  have j1 := b2.frozen 1
  have j2 := b2.frozen 2
  clear b1 b2
  go_wp2_with fail
  refine bodyPost_ret (v := .agg #[.int .u64 k0, .int .u64 k1, .int .u64 m]) (by simp [results, Tryz.results37, go_sem, e0, e1, e2]) rfl ⟨rfl, ?_⟩
  exact ((hB0.setCell (p := ⟨N2, 0, none⟩) l2 _).setCell (p := ⟨N2, 1, none⟩) l2 _).setCell (p := ⟨N2, 2, none⟩) l2 _
theorem refGet_any (A : Option Addr) (c : Nat) (xs : List Pr) (k : ByteArray) (w : World) (hR : Rd w A xs) (hr : RisesL xs) (hn : xs.length ≤ 1000) (hz : Sized xs) (hk : k.size ≤ maxLen) :
    Calls Tryz.prog 12 #[.slice A xs.length c, .string k] w (GetPost (getK xs k) w) := by
  have kf := refFind_any A c xs k w hR hn hz hk
  rw [getK_isK k hr]
  cases hik : isK xs k with
  | true =>
    rw [hik] at kf
    rw [if_pos rfl]
    have hl := isK_lt hik
    obtain ⟨g, off, rfl, c0, c1⟩ := hR _ _ (pat_get hl)
    have B1 : ((posK xs k : Nat) : Int) < (xs.length : Int) := by omega
    clear hik hR
    generalize posK xs k = P at *
    go_enter Tryz.func12, Tryz.ntmps12
    go_wp2_with fail
    refine kf.mono ?_
    rintro e w1 ⟨rfl, q, rfl⟩
    have d1 : (w.drewN q).cell? ⟨g, off + P * 2 + 1, none⟩ = some (.string (pat xs P).2) := c1
    have hB : Below w.heap.size w (w.drewN q) := ⟨rfl, rfl, rfl, Nat.le_refl _, fun _ _ => rfl⟩
    clear kf c0 c1
    generalize w.drewN q = W at *
    go_wp2_with fail
    go_ret2
    exact ⟨rfl, hB⟩
  | false =>
    rw [hik] at kf
    rw [if_neg (by simp)]
    clear hik hR
    generalize posK xs k = P at *
    go_enter Tryz.func12, Tryz.ntmps12
    go_wp2_with fail
    refine kf.mono ?_
    rintro e w1 ⟨rfl, q, rfl⟩
    have hB : Below w.heap.size w (w.drewN q) := ⟨rfl, rfl, rfl, Nat.le_refl _, fun _ _ => rfl⟩
    generalize w.drewN q = W at *
    go_wp2_with fail
    go_ret2
    exact ⟨rfl, hB⟩
end Go.Proofs.YtfmbikmpobieoaaGreat
