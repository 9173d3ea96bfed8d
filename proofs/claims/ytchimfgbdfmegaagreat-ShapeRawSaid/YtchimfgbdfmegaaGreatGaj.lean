/- Put, below the root. -/
import Derived.Test.YtchimfgbdfmegaaGreatGai
import Derived.Deep.RegionHeld3
namespace Go.Proofs.YtchimfgbdfmegaaGreat
open Go.RowKit Go.Lib
set_option linter.unusedVariables false
set_option maxRecDepth 100000
set_option linter.unusedSimpArgs false
set_option maxRecDepth 100000
attribute [local irreducible] cnt
def startsAt (k : Nat) : Code → Bool
  | .region i _ _ => i == k
  | .seq a _ => startsAt k a
  | _ => false
def fromRegion (k : Nat) : Code → Option Code
  | .seq a b => if startsAt k a then some (.seq a b) else fromRegion k b
  | _ => none
theorem Trie.changeB {H : ByteArray → Nat} {X F : Nat → Prop} {tk : Option Nat} {lv : Bool} {base : Nat} {w w2 : World} {l b : Nat} {ps' : List Pr} {ow : Option Nat} {pv kv : Value} {ps : List Pr} {e : Ending}
    (hcx : Cx X tk lv base w) (hB : Bck base w b ow ps pv kv) (hN : NodeW X (ownB ow tk lv) (foot b pv kv) (fun _ _ => False) F)
    (hp : ChgPost base (ownB ow tk lv) b pv kv (newOw tk lv) true 0 0 ps' [] w e w2) (hr : RisesL ps') :
    RetB (ChPost H X tk lv base 0 l ps' F w) e w2 := by
  obtain ⟨b1, pv1, kv1, rfl, h1, hcg⟩ := hp
  have hkB : Keep (if ownB ow tk lv = true then foot b pv kv else []) w w2 := hcg.keep
  obtain ⟨Y, hYk, hY⟩ : ∃ Y : Nat → Prop, KeepF Y w w2 ∧ ∀ x, Y x ↔ (ownB ow tk lv = true ∧ x ∈ foot b pv kv) := by
    refine ⟨fun x => ownB ow tk lv = true ∧ x ∈ foot b pv kv, (KeepF.ofKeep hkB).mono fun x hx => .inl ?_, fun x => Iff.rfl⟩
    cases ho : ownB ow tk lv with
    | true => rw [ho] at hx; exact ⟨rfl, by simpa using hx⟩
    | false => rw [ho] at hx; simp at hx
  have hT2 : ∀ t l, TV w t l → TV w2 t l := fun t l hv => hv.keepF hYk fun x hx => hB.1.noTok x ((hY x).1 hx).2
  refine ⟨b1, rfl, fun y => lv = true ∧ y ∈ foot b1 pv1 kv1, ?_, hYk.mono fun y hy => .inl ?_, hT2 _ _ hcx.tv, ?_⟩
  · obtain ⟨lo, hlo2⟩ := tv_new (hT2 _ _ hcx.tv) hcx.tok
    refine ⟨newOw tk lv, pv1, kv1, lo, ⟨h1, hr⟩, hlo2, ?_⟩
    rw [own_new]
    constructor
    · intro e
      refine ⟨fun y hy => ?_, fun y => by simp [e], fun c y hc hf => hf.elim, fun c c' y _ _ hf => hf.elim⟩
      rcases hcg.foot y hy with ⟨ho, hm⟩ | hm
      · exact (hN.yes ho).1 y hm
      · exact hcx.yes e y hm
    · intro e
      refine ⟨fun y hy => ?_, fun y hy => by simp [e] at hy, fun c y hc hf => hf⟩
      rcases hcg.foot y hy with ⟨ho, _⟩ | hm
      · rw [e] at ho; simp [ownB] at ho
      · exact hcx.no e y hm
  · obtain ⟨ho, hy⟩ := (hY y).1 hy
    exact ((hN.yes ho).2.1 y).2 (.inl hy)
  · rintro y ⟨e, hy⟩
    rcases hcg.foot y hy with ⟨ho, hm⟩ | hm
    · exact .inl (((hN.yes ho).2.1 y).2 (.inl hm))
    · exact .inr hm
/-- what a change holds in its boxes -/
def Bx (N1 N2 : Nat) (k0 k1 m hh : Int) (T : Option Addr) (pk pu : ByteArray) (w' : World) : Prop := w'.cell? ⟨N1, 0, none⟩ = some (.int .u64 k0) ∧ w'.cell? ⟨N1, 1, none⟩ = some (.int .u64 k1) ∧ w'.cell? ⟨N1, 2, none⟩ = some (.int .u64 m) ∧ w'.cell? ⟨N1, 3, none⟩ = some (.int .u64 hh) ∧ w'.cell? ⟨N1, 4, none⟩ = some (.pointer T) ∧ w'.cell? ⟨N2, 0, none⟩ = some (.string pk) ∧ w'.cell? ⟨N2, 1, none⟩ = some (.string pu)
theorem Bx.keep {N1 N2 : Nat} {k0 k1 m hh : Int} {T : Option Addr} {pk pu : ByteArray} {w w' : World} (h : Bx N1 N2 k0 k1 m hh T pk pu w) (e1 : w'.heap[N1]? = w.heap[N1]?) (e2 : w'.heap[N2]? = w.heap[N2]?) : Bx N1 N2 k0 k1 m hh T pk pu w' := by
  have f1 : ∀ i, w'.cell? ⟨N1, i, none⟩ = w.cell? ⟨N1, i, none⟩ := fun i => by simp [World.cell?, e1]
  have f2 : ∀ i, w'.cell? ⟨N2, i, none⟩ = w.cell? ⟨N2, i, none⟩ := fun i => by simp [World.cell?, e2]
  unfold Bx at *
  simp only [f1, f2]
  exact h
noncomputable def put2 : Code := (Tryz.f51.body.bind (fromRegion 2)).getD .skip
set_option maxHeartbeats 4000000 in
theorem put2_zero (R : Nat → World → Prop) (k0 k1 m hh : Int) (tk : Option Nat) (b l N1 N2 : Nat) (own : Bool) (T : Option Addr) (pk pu : ByteArray) (w : World) (hT : pt tk = .pointer T) (hl : l = 13)
    (hbx : Bx N1 N2 k0 k1 m hh T pk pu w)
    (ho : own = true ∨ ∀ w', Below w.heap.size w w' → Calls Tryz.prog 69 #[.pointer (some ⟨b, 0, none⟩), pt tk] w' fun e w'' => e = .returned (.bool false) ∧ w' = w'')
    (h : ∀ w', Below w.heap.size w w' → Calls Tryz.prog 40 #[.pointer (some ⟨b, 0, none⟩), pt tk, .agg #[.string pk, .string pu]] w' (RetB fun b1 w1 => R b1 w1 ∧ Bx N1 N2 k0 k1 m hh T pk pu w1)) (x0 x4 x6 x7 x8 x10 x11 x12 x13 x14 x15 x16 x17 x18 x19 x20 x21 x22 x23 x24 x25 x26 x27 x28 x29 x30 x31 x32 x33 x34 x35 x36 x37 x38 x39 x40 x41 x42 x43 x44 x45 x46 x47 x48 x49 x50 x51 x52 x53 x54 x55 x56 x57 x58 x59 x60 x61 x62 x63 x64 x65 x66 x67 x68 x69 x70 x71 x72 x73 x74 x75 x76 x77 x78 x79 x80 x81 x82 x83 x84 x85 x86 x87 x88 x89 x90 x91 : Value) :
    Code.wp Tryz.prog put2 (bodyPost Tryz.prog Tryz.f51 (RetB R)) ⟨#[x0, .pointer (some ⟨b, 0, none⟩), .int .i64 l, .bool own, x4, .pointer (some ⟨N1, 0, none⟩), x6, x7, x8, .pointer (some ⟨N2, 0, none⟩), x10, x11, x12, x13, x14, x15, x16, x17, x18, x19, x20, x21, x22, x23, x24, x25, x26, x27, x28, x29, x30, x31, x32, x33, x34, x35, x36, x37, x38, x39, x40, x41, x42, x43, x44, x45, x46, x47, x48, x49, x50, x51, x52, x53, x54, x55, x56, x57, x58, x59, x60, x61, x62, x63, x64, x65, x66, x67, x68, x69, x70, x71, x72, x73, x74, x75, x76, x77, x78, x79, x80, x81, x82, x83, x84, x85, x86, x87, x88, x89, x90, x91], []⟩ w := by
  subst hl
  have HM := Lib.hid (fun (f : Value) (w1 : World) (hB : Below w.heap.size w w1) (hf : isPut w1 f pk pu) => madePut k0 k1 m hh tk b own f pk pu _ w1 hf (ho.imp_right fun g w' hw => g w' (hB.trans (hw.mono hB.size))) (fun w' hw => h w' (hB.trans (hw.mono hB.size))))
  rw [hT] at HM
  have hS : (fun w' : World => w'.cell? ⟨N1, 0, none⟩ = some (.int .u64 k0) ∧ w'.cell? ⟨N1, 1, none⟩ = some (.int .u64 k1) ∧ w'.cell? ⟨N1, 2, none⟩ = some (.int .u64 m) ∧ w'.cell? ⟨N1, 3, none⟩ = some (.int .u64 hh) ∧ w'.cell? ⟨N1, 4, none⟩ = some (.pointer T) ∧ w'.cell? ⟨N2, 0, none⟩ = some (.string pk) ∧ w'.cell? ⟨N2, 1, none⟩ = some (.string pu)) w.drew := hbx
  have hB0 : Below w.heap.size w w.drew := (Below.refl _ w).drew
  clear ho h hbx hT
  simp only []
  conv => arg 2; whnf
  go_upto_region 3 with (fail)
  go_region_held3 (fun w' : World => w'.cell? ⟨N1, 0, none⟩ = some (.int .u64 k0) ∧ w'.cell? ⟨N1, 1, none⟩ = some (.int .u64 k1) ∧ w'.cell? ⟨N1, 2, none⟩ = some (.int .u64 m) ∧ w'.cell? ⟨N1, 3, none⟩ = some (.int .u64 hh) ∧ w'.cell? ⟨N1, 4, none⟩ = some (.pointer T) ∧ w'.cell? ⟨N2, 0, none⟩ = some (.string pk) ∧ w'.cell? ⟨N2, 1, none⟩ = some (.string pu)) (first | exact hS | exact hK) (first
    | (have _g := hf; clear _g; go_at_call 84; refine (HM.out _ _ hBf hf).mono ?_; rintro e w2 ⟨b1, rfl, hR, hK⟩)
    | (go_at_call 85; refine (mkPut pk pu _).mono ?_; rintro e w1 ⟨f, rfl, hf, hBf⟩; have hK : (fun w' : World => w'.cell? ⟨N1, 0, none⟩ = some (.int .u64 k0) ∧ w'.cell? ⟨N1, 1, none⟩ = some (.int .u64 k1) ∧ w'.cell? ⟨N1, 2, none⟩ = some (.int .u64 m) ∧ w'.cell? ⟨N1, 3, none⟩ = some (.int .u64 hh) ∧ w'.cell? ⟨N1, 4, none⟩ = some (.pointer T) ∧ w'.cell? ⟨N2, 0, none⟩ = some (.string pk) ∧ w'.cell? ⟨N2, 1, none⟩ = some (.string pu)) w1 := Bx.keep (w := w.drew) hS (hBf.block _ (World.block_lt_of_cell? w.drew _ hS.1)) (hBf.block _ (World.block_lt_of_cell? w.drew _ hS.2.2.2.2.2.1)); replace hBf := hB0.trans (hBf.mono hB0.size)))
  clear HM
  go_wp2_with fail
  go_ret
  exact ⟨b1, rfl, hR⟩
set_option maxHeartbeats 8000000 in
theorem put2_same (R : Nat → World → Prop) (k0 k1 m : Int) (hh : Nat) (tk : Option Nat) (b l C N1 N2 : Nat) (own : Bool) (T : Option Addr) (pk pu : ByteArray) (w : World) (hT : pt tk = .pointer T) (hl : l < 13)
    (hbx : Bx N1 N2 k0 k1 m hh T pk pu w) (ha : ∀ w', Calls Tryz.prog 79 #[.int .u64 hh, .int .i64 l] w' fun e w'' => e = .returned (.int .i64 C) ∧ w' = w'')
    (hk : ∀ w', Below w.heap.size w w' → Calls Tryz.prog 82 #[.pointer (some ⟨b, 0, none⟩), .int .i64 C] w' (KidPost none w'))
    (qu : ByteArray) (hp : ∀ w', Below w.heap.size w w' → Calls Tryz.prog 80 #[.pointer (some ⟨b, 0, none⟩), .int .i64 C] w' (PairPost (some (pk, qu)) w'))
    (ho : own = true ∨ ∀ w', Below w.heap.size w w' → Calls Tryz.prog 69 #[.pointer (some ⟨b, 0, none⟩), pt tk] w' fun e w'' => e = .returned (.bool false) ∧ w' = w'')
    (h : ∀ w', Below w.heap.size w w' → Calls Tryz.prog 21 #[.pointer (some ⟨b, 0, none⟩), pt tk, .int .i64 C, .agg #[.string pk, .string pu]] w' (RetB fun b1 w1 => R b1 w1 ∧ Bx N1 N2 k0 k1 m hh T pk pu w1)) (x0 x4 x6 x7 x8 x10 x11 x12 x13 x14 x15 x16 x17 x18 x19 x20 x21 x22 x23 x24 x25 x26 x27 x28 x29 x30 x31 x32 x33 x34 x35 x36 x37 x38 x39 x40 x41 x42 x43 x44 x45 x46 x47 x48 x49 x50 x51 x52 x53 x54 x55 x56 x57 x58 x59 x60 x61 x62 x63 x64 x65 x66 x67 x68 x69 x70 x71 x72 x73 x74 x75 x76 x77 x78 x79 x80 x81 x82 x83 x84 x85 x86 x87 x88 x89 x90 x91 : Value) :
    Code.wp Tryz.prog put2 (bodyPost Tryz.prog Tryz.f51 (RetB R)) ⟨#[x0, .pointer (some ⟨b, 0, none⟩), .int .i64 l, .bool own, x4, .pointer (some ⟨N1, 0, none⟩), x6, x7, x8, .pointer (some ⟨N2, 0, none⟩), x10, x11, x12, x13, x14, x15, x16, x17, x18, x19, x20, x21, x22, x23, x24, x25, x26, x27, x28, x29, x30, x31, x32, x33, x34, x35, x36, x37, x38, x39, x40, x41, x42, x43, x44, x45, x46, x47, x48, x49, x50, x51, x52, x53, x54, x55, x56, x57, x58, x59, x60, x61, x62, x63, x64, x65, x66, x67, x68, x69, x70, x71, x72, x73, x74, x75, x76, x77, x78, x79, x80, x81, x82, x83, x84, x85, x86, x87, x88, x89, x90, x91], []⟩ w := by
  have HM := Lib.hid (fun (f : Value) (w1 : World) (hB : Below w.heap.size w w1) (hf : isPair w1 f C pk pu) => madePair k0 k1 m hh tk b own f C pk pu _ w1 hf (ho.imp_right fun g w' hw => g w' (hB.trans (hw.mono hB.size))) (fun w' hw => h w' (hB.trans (hw.mono hB.size))))
  rw [hT] at HM
  have c3 : w.cell? ⟨N1, 3, none⟩ = some (.int .u64 hh) := hbx.2.2.2.1
  have L13 : ¬ ((l : Int) = 13) := by omega
  have hkw := hk w (Below.refl _ _)
  have haw := ha w
  have HBX := Lib.hid hbx
  clear ho h hbx hT hk ha
  simp only []
  conv => arg 2; whnf
  go_wp2_with fail
  refine haw.mono ?_
  rintro e w' ⟨rfl, rfl⟩
  go_wp2_with fail
  refine hkw.mono ?_
  rintro e w1 ⟨rfl, hB1⟩
  simp only [pt, Option.isSome_none]
  have hpw := hp w1 hB1
  clear haw hkw c3
  go_wp2_with fail
  refine hpw.mono ?_
  rintro e w2 ⟨rfl, hB2⟩
  simp only [optP, Pr.v, Option.isSome_none, Option.isSome_some]
  go_upto_region 9 with (fail)
  have hB12 := hB1.trans (hB2.mono hB1.size)
  have hB3 := hB12.alloc hB12.size (.cells #[.string pk, .string qu] 52)
  have hnew := Blk.new w2 52 #[.string pk, .string qu]
  clear hpw hp hB1 hB2 hB12
  generalize w2.alloc (.cells #[.string pk, .string qu] 52) = W at *
  generalize w2.heap.size = N3 at *
  have hbW : Bx N1 N2 k0 k1 m hh T pk pu W := HBX.out.keep (hB3.block _ (World.block_lt_of_cell? w _ HBX.out.1)) (hB3.block _ (World.block_lt_of_cell? w _ HBX.out.2.2.2.2.2.1))
  have q0 : W.cell? ⟨N3, 0, none⟩ = some (.string pk) := hnew.cell 0
  have p0 : W.cell? ⟨N2, 0, none⟩ = some (.string pk) := hbW.2.2.2.2.2.1
  have hS : (fun w' : World => w'.cell? ⟨N1, 0, none⟩ = some (.int .u64 k0) ∧ w'.cell? ⟨N1, 1, none⟩ = some (.int .u64 k1) ∧ w'.cell? ⟨N1, 2, none⟩ = some (.int .u64 m) ∧ w'.cell? ⟨N1, 3, none⟩ = some (.int .u64 hh) ∧ w'.cell? ⟨N1, 4, none⟩ = some (.pointer T) ∧ w'.cell? ⟨N2, 0, none⟩ = some (.string pk) ∧ w'.cell? ⟨N2, 1, none⟩ = some (.string pu)) W.drew := hbW
  have hB0 : Below w.heap.size w W.drew := hB3.drew
  clear HBX hnew hB3 hbW
  go_upto_region 11 with (fail)
  clear q0 p0
  go_region_held3 (fun w' : World => w'.cell? ⟨N1, 0, none⟩ = some (.int .u64 k0) ∧ w'.cell? ⟨N1, 1, none⟩ = some (.int .u64 k1) ∧ w'.cell? ⟨N1, 2, none⟩ = some (.int .u64 m) ∧ w'.cell? ⟨N1, 3, none⟩ = some (.int .u64 hh) ∧ w'.cell? ⟨N1, 4, none⟩ = some (.pointer T) ∧ w'.cell? ⟨N2, 0, none⟩ = some (.string pk) ∧ w'.cell? ⟨N2, 1, none⟩ = some (.string pu)) (first | exact hS | exact hK) (first
    | (have _g := hf; clear _g; go_at_call 84; refine (HM.out _ _ hBf hf).mono ?_; rintro e w5 ⟨b1, rfl, hR, hK⟩)
    | (go_at_call 88; refine (mkPair C pk pu _).mono ?_; rintro e w4 ⟨f, rfl, hf, hBf⟩; have hK : (fun w' : World => w'.cell? ⟨N1, 0, none⟩ = some (.int .u64 k0) ∧ w'.cell? ⟨N1, 1, none⟩ = some (.int .u64 k1) ∧ w'.cell? ⟨N1, 2, none⟩ = some (.int .u64 m) ∧ w'.cell? ⟨N1, 3, none⟩ = some (.int .u64 hh) ∧ w'.cell? ⟨N1, 4, none⟩ = some (.pointer T) ∧ w'.cell? ⟨N2, 0, none⟩ = some (.string pk) ∧ w'.cell? ⟨N2, 1, none⟩ = some (.string pu)) w4 := Bx.keep (w := W.drew) hS (hBf.block _ (World.block_lt_of_cell? W.drew _ hS.1)) (hBf.block _ (World.block_lt_of_cell? W.drew _ hS.2.2.2.2.2.1)); replace hBf := hB0.trans (hBf.mono hB0.size)))
  clear HM
  go_wp2_with fail
  go_ret
  exact ⟨b1, rfl, hR⟩
set_option maxHeartbeats 8000000 in
theorem put2_none (R : Nat → World → Prop) (k0 k1 m : Int) (hh : Nat) (tk : Option Nat) (b l C N1 N2 : Nat) (own : Bool) (T : Option Addr) (pk pu : ByteArray) (w : World) (hT : pt tk = .pointer T) (hl : l < 13)
    (hbx : Bx N1 N2 k0 k1 m hh T pk pu w) (ha : ∀ w', Calls Tryz.prog 79 #[.int .u64 hh, .int .i64 l] w' fun e w'' => e = .returned (.int .i64 C) ∧ w' = w'')
    (hk : ∀ w', Below w.heap.size w w' → Calls Tryz.prog 82 #[.pointer (some ⟨b, 0, none⟩), .int .i64 C] w' (KidPost none w'))
    (hp : ∀ w', Below w.heap.size w w' → Calls Tryz.prog 80 #[.pointer (some ⟨b, 0, none⟩), .int .i64 C] w' (PairPost none w'))
    (ho : own = true ∨ ∀ w', Below w.heap.size w w' → Calls Tryz.prog 69 #[.pointer (some ⟨b, 0, none⟩), pt tk] w' fun e w'' => e = .returned (.bool false) ∧ w' = w'')
    (h : ∀ w', Below w.heap.size w w' → Calls Tryz.prog 21 #[.pointer (some ⟨b, 0, none⟩), pt tk, .int .i64 C, .agg #[.string pk, .string pu]] w' (RetB fun b1 w1 => R b1 w1 ∧ Bx N1 N2 k0 k1 m hh T pk pu w1)) (x0 x4 x6 x7 x8 x10 x11 x12 x13 x14 x15 x16 x17 x18 x19 x20 x21 x22 x23 x24 x25 x26 x27 x28 x29 x30 x31 x32 x33 x34 x35 x36 x37 x38 x39 x40 x41 x42 x43 x44 x45 x46 x47 x48 x49 x50 x51 x52 x53 x54 x55 x56 x57 x58 x59 x60 x61 x62 x63 x64 x65 x66 x67 x68 x69 x70 x71 x72 x73 x74 x75 x76 x77 x78 x79 x80 x81 x82 x83 x84 x85 x86 x87 x88 x89 x90 x91 : Value) :
    Code.wp Tryz.prog put2 (bodyPost Tryz.prog Tryz.f51 (RetB R)) ⟨#[x0, .pointer (some ⟨b, 0, none⟩), .int .i64 l, .bool own, x4, .pointer (some ⟨N1, 0, none⟩), x6, x7, x8, .pointer (some ⟨N2, 0, none⟩), x10, x11, x12, x13, x14, x15, x16, x17, x18, x19, x20, x21, x22, x23, x24, x25, x26, x27, x28, x29, x30, x31, x32, x33, x34, x35, x36, x37, x38, x39, x40, x41, x42, x43, x44, x45, x46, x47, x48, x49, x50, x51, x52, x53, x54, x55, x56, x57, x58, x59, x60, x61, x62, x63, x64, x65, x66, x67, x68, x69, x70, x71, x72, x73, x74, x75, x76, x77, x78, x79, x80, x81, x82, x83, x84, x85, x86, x87, x88, x89, x90, x91], []⟩ w := by
  have HM := Lib.hid (fun (f : Value) (w1 : World) (hB : Below w.heap.size w w1) (hf : isPair w1 f C pk pu) => madePair k0 k1 m hh tk b own f C pk pu _ w1 hf (ho.imp_right fun g w' hw => g w' (hB.trans (hw.mono hB.size))) (fun w' hw => h w' (hB.trans (hw.mono hB.size))))
  rw [hT] at HM
  have c3 : w.cell? ⟨N1, 3, none⟩ = some (.int .u64 hh) := hbx.2.2.2.1
  have L13 : ¬ ((l : Int) = 13) := by omega
  have hkw := hk w (Below.refl _ _)
  have haw := ha w
  have HBX := Lib.hid hbx
  clear ho h hbx hT hk ha
  simp only []
  conv => arg 2; whnf
  go_wp2_with fail
  refine haw.mono ?_
  rintro e w' ⟨rfl, rfl⟩
  go_wp2_with fail
  refine hkw.mono ?_
  rintro e w1 ⟨rfl, hB1⟩
  simp only [pt, Option.isSome_none]
  have hpw := hp w1 hB1
  clear haw hkw c3
  go_wp2_with fail
  refine hpw.mono ?_
  rintro e w2 ⟨rfl, hB2⟩
  simp only [optP, Pr.v, Option.isSome_none, Option.isSome_some]
  go_upto_region 9 with (fail)
  have hB12 := hB1.trans (hB2.mono hB1.size)
  have hB3 := hB12.alloc hB12.size (.cells #[.string ⟨#[]⟩, .string ⟨#[]⟩] 52)
  have hnew := Blk.new w2 52 #[.string ⟨#[]⟩, .string ⟨#[]⟩]
  clear hpw hp hB1 hB2 hB12
  generalize w2.alloc (.cells #[.string ⟨#[]⟩, .string ⟨#[]⟩] 52) = W at *
  generalize w2.heap.size = N3 at *
  have hbW : Bx N1 N2 k0 k1 m hh T pk pu W := HBX.out.keep (hB3.block _ (World.block_lt_of_cell? w _ HBX.out.1)) (hB3.block _ (World.block_lt_of_cell? w _ HBX.out.2.2.2.2.2.1))
  have q0 : W.cell? ⟨N3, 0, none⟩ = some (.string ⟨#[]⟩) := hnew.cell 0
  have p0 : W.cell? ⟨N2, 0, none⟩ = some (.string pk) := hbW.2.2.2.2.2.1
  have hS : (fun w' : World => w'.cell? ⟨N1, 0, none⟩ = some (.int .u64 k0) ∧ w'.cell? ⟨N1, 1, none⟩ = some (.int .u64 k1) ∧ w'.cell? ⟨N1, 2, none⟩ = some (.int .u64 m) ∧ w'.cell? ⟨N1, 3, none⟩ = some (.int .u64 hh) ∧ w'.cell? ⟨N1, 4, none⟩ = some (.pointer T) ∧ w'.cell? ⟨N2, 0, none⟩ = some (.string pk) ∧ w'.cell? ⟨N2, 1, none⟩ = some (.string pu)) W.drew := hbW
  have hB0 : Below w.heap.size w W.drew := hB3.drew
  clear HBX hnew hB3 hbW
  go_upto_region 11 with (fail)
  clear q0 p0
  go_region_held3 (fun w' : World => w'.cell? ⟨N1, 0, none⟩ = some (.int .u64 k0) ∧ w'.cell? ⟨N1, 1, none⟩ = some (.int .u64 k1) ∧ w'.cell? ⟨N1, 2, none⟩ = some (.int .u64 m) ∧ w'.cell? ⟨N1, 3, none⟩ = some (.int .u64 hh) ∧ w'.cell? ⟨N1, 4, none⟩ = some (.pointer T) ∧ w'.cell? ⟨N2, 0, none⟩ = some (.string pk) ∧ w'.cell? ⟨N2, 1, none⟩ = some (.string pu)) (first | exact hS | exact hK) (first
    | (have _g := hf; clear _g; go_at_call 84; refine (HM.out _ _ hBf hf).mono ?_; rintro e w5 ⟨b1, rfl, hR, hK⟩)
    | (go_at_call 88; refine (mkPair C pk pu _).mono ?_; rintro e w4 ⟨f, rfl, hf, hBf⟩; have hK : (fun w' : World => w'.cell? ⟨N1, 0, none⟩ = some (.int .u64 k0) ∧ w'.cell? ⟨N1, 1, none⟩ = some (.int .u64 k1) ∧ w'.cell? ⟨N1, 2, none⟩ = some (.int .u64 m) ∧ w'.cell? ⟨N1, 3, none⟩ = some (.int .u64 hh) ∧ w'.cell? ⟨N1, 4, none⟩ = some (.pointer T) ∧ w'.cell? ⟨N2, 0, none⟩ = some (.string pk) ∧ w'.cell? ⟨N2, 1, none⟩ = some (.string pu)) w4 := Bx.keep (w := W.drew) hS (hBf.block _ (World.block_lt_of_cell? W.drew _ hS.1)) (hBf.block _ (World.block_lt_of_cell? W.drew _ hS.2.2.2.2.2.1)); replace hBf := hB0.trans (hBf.mono hB0.size)))
  clear HM
  go_wp2_with fail
  go_ret
  exact ⟨b1, rfl, hR⟩
set_option maxHeartbeats 8000000 in
theorem put2_kid (R : Nat → World → Prop) (k0 k1 m : Int) (hh : Nat) (tk : Option Nat) (b l C N1 N2 : Nat) (own : Bool) (T : Option Addr) (pk pu : ByteArray) (w : World) (hT : pt tk = .pointer T) (hl : l < 13)
    (hbx : Bx N1 N2 k0 k1 m hh T pk pu w) (ha : ∀ w', Calls Tryz.prog 79 #[.int .u64 hh, .int .i64 l] w' fun e w'' => e = .returned (.int .i64 C) ∧ w' = w'') (kb : Nat) (Q : Nat → World → Prop)
    (hk : ∀ w', Below w.heap.size w w' → Calls Tryz.prog 82 #[.pointer (some ⟨b, 0, none⟩), .int .i64 C] w' (KidPost (some kb) w'))
    (hr : ∀ w', Below w.heap.size w w' → Calls Tryz.prog 51 #[.agg #[.int .u64 k0, .int .u64 k1, .int .u64 m, .int .u64 hh, .pointer T], .pointer (some ⟨kb, 0, none⟩), .int .i64 (l + 1 : Nat), .bool own, .agg #[.string pk, .string pu]] w' (RetB fun b1 w1 => Q b1 w1 ∧ Bx N1 N2 k0 k1 m hh T pk pu w1))
    (ho : ∀ kb' w1, Q kb' w1 → own = true ∨ ∀ w', Below w1.heap.size w1 w' → Calls Tryz.prog 69 #[.pointer (some ⟨b, 0, none⟩), pt tk] w' fun e w'' => e = .returned (.bool false) ∧ w' = w'')
    (h : ∀ kb' w1, Q kb' w1 → ∀ w', Below w1.heap.size w1 w' → Calls Tryz.prog 23 #[.pointer (some ⟨b, 0, none⟩), pt tk, .int .i64 C, .pointer (some ⟨kb', 0, none⟩)] w' (RetB fun b1 w2 => R b1 w2 ∧ Bx N1 N2 k0 k1 m hh T pk pu w2)) (x0 x4 x6 x7 x8 x10 x11 x12 x13 x14 x15 x16 x17 x18 x19 x20 x21 x22 x23 x24 x25 x26 x27 x28 x29 x30 x31 x32 x33 x34 x35 x36 x37 x38 x39 x40 x41 x42 x43 x44 x45 x46 x47 x48 x49 x50 x51 x52 x53 x54 x55 x56 x57 x58 x59 x60 x61 x62 x63 x64 x65 x66 x67 x68 x69 x70 x71 x72 x73 x74 x75 x76 x77 x78 x79 x80 x81 x82 x83 x84 x85 x86 x87 x88 x89 x90 x91 : Value) :
    Code.wp Tryz.prog put2 (bodyPost Tryz.prog Tryz.f51 (RetB R)) ⟨#[x0, .pointer (some ⟨b, 0, none⟩), .int .i64 l, .bool own, x4, .pointer (some ⟨N1, 0, none⟩), x6, x7, x8, .pointer (some ⟨N2, 0, none⟩), x10, x11, x12, x13, x14, x15, x16, x17, x18, x19, x20, x21, x22, x23, x24, x25, x26, x27, x28, x29, x30, x31, x32, x33, x34, x35, x36, x37, x38, x39, x40, x41, x42, x43, x44, x45, x46, x47, x48, x49, x50, x51, x52, x53, x54, x55, x56, x57, x58, x59, x60, x61, x62, x63, x64, x65, x66, x67, x68, x69, x70, x71, x72, x73, x74, x75, x76, x77, x78, x79, x80, x81, x82, x83, x84, x85, x86, x87, x88, x89, x90, x91], []⟩ w := by
  have HM := Lib.hid (fun (kb' : Nat) (w1 : World) (hQ : Q kb' w1) (f : Value) (w2 : World) (hB : Below w1.heap.size w1 w2) (hf : isKid w2 f C kb') => madeKid k0 k1 m hh tk b own f C kb' _ w2 hf ((ho kb' w1 hQ).imp_right fun g w' hw => g w' (hB.trans (hw.mono hB.size))) (fun w' hw => h kb' w1 hQ w' (hB.trans (hw.mono hB.size))))
  rw [hT] at HM
  have c3 : w.cell? ⟨N1, 3, none⟩ = some (.int .u64 hh) := hbx.2.2.2.1
  have L13 : ¬ ((l : Int) = 13) := by omega
  have L2 : IntKind.i64.wrap ((l : Int) + 1) = ((l + 1 : Nat) : Int) := by rw [IntWalk.i64_in _ (by omega)]; omega
  have hkw := hk w (Below.refl _ _)
  have haw := ha w
  have HBX := Lib.hid hbx
  have HR := Lib.hid hr
  clear ho h hbx hT hk ha hr
  simp only []
  conv => arg 2; whnf
  go_wp2_with fail
  refine haw.mono ?_
  rintro e w' ⟨rfl, rfl⟩
  go_wp2_with fail
  refine hkw.mono ?_
  rintro e w1 ⟨rfl, hB1⟩
  simp only [pt, Option.isSome_some]
  unfold at0
  have hbW : Bx N1 N2 k0 k1 m hh T pk pu w1 := HBX.out.keep (hB1.block _ (World.block_lt_of_cell? w _ HBX.out.1)) (hB1.block _ (World.block_lt_of_cell? w _ HBX.out.2.2.2.2.2.1))
  have hS : (fun w' : World => w'.cell? ⟨N1, 0, none⟩ = some (.int .u64 k0) ∧ w'.cell? ⟨N1, 1, none⟩ = some (.int .u64 k1) ∧ w'.cell? ⟨N1, 2, none⟩ = some (.int .u64 m) ∧ w'.cell? ⟨N1, 3, none⟩ = some (.int .u64 hh) ∧ w'.cell? ⟨N1, 4, none⟩ = some (.pointer T) ∧ w'.cell? ⟨N2, 0, none⟩ = some (.string pk) ∧ w'.cell? ⟨N2, 1, none⟩ = some (.string pu)) w1.drew := hbW
  have hB0 : Below w.heap.size w w1.drew := hB1.drew
  have hrec := HR.out _ hB0
  clear haw hkw c3 HBX HR hB1 hbW hB0
  obtain ⟨J, hJ⟩ : ∃ J : Int, J = ((l + 1 : Nat) : Int) := ⟨_, rfl⟩
  rw [← hJ] at hrec L2
  clear hJ
  go_upto_region 7 with (fail)
  go_region_held3 (fun w' : World => w'.cell? ⟨N1, 0, none⟩ = some (.int .u64 k0) ∧ w'.cell? ⟨N1, 1, none⟩ = some (.int .u64 k1) ∧ w'.cell? ⟨N1, 2, none⟩ = some (.int .u64 m) ∧ w'.cell? ⟨N1, 3, none⟩ = some (.int .u64 hh) ∧ w'.cell? ⟨N1, 4, none⟩ = some (.pointer T) ∧ w'.cell? ⟨N2, 0, none⟩ = some (.string pk) ∧ w'.cell? ⟨N2, 1, none⟩ = some (.string pu)) (first | exact hS | exact hK) (first
    | (have _g := hf; clear _g; go_at_call 84; refine (HM.out _ _ hQ _ _ hBf hf).mono ?_; rintro e w5 ⟨b1, rfl, hR, hK⟩)
    | (have _g := hQ; clear _g; go_at_call 86; refine (mkKid C kb' _).mono ?_; rintro e w4 ⟨f, rfl, hf, hBf⟩; have hK : (fun w' : World => w'.cell? ⟨N1, 0, none⟩ = some (.int .u64 k0) ∧ w'.cell? ⟨N1, 1, none⟩ = some (.int .u64 k1) ∧ w'.cell? ⟨N1, 2, none⟩ = some (.int .u64 m) ∧ w'.cell? ⟨N1, 3, none⟩ = some (.int .u64 hh) ∧ w'.cell? ⟨N1, 4, none⟩ = some (.pointer T) ∧ w'.cell? ⟨N2, 0, none⟩ = some (.string pk) ∧ w'.cell? ⟨N2, 1, none⟩ = some (.string pu)) w4 := Bx.keep (w := w3) hK3 (hBf.block _ (World.block_lt_of_cell? w3 _ hK3.1)) (hBf.block _ (World.block_lt_of_cell? w3 _ hK3.2.2.2.2.2.1)))
    | (go_at_call 51; refine hrec.mono ?_; rintro e w3 ⟨kb', rfl, hQ, hK⟩; have hK3 := hK))
  clear HM
  go_wp2_with fail
  go_ret
  exact ⟨b1, rfl, hR⟩
theorem keep10 {N1 N2 N3 : Nat} {k0 k1 m hh : Int} {T : Option Addr} {pk pu qk qu : ByteArray} {w w' : World} (h : (fun w' : World => w'.cell? ⟨N1, 0, none⟩ = some (.int .u64 k0) ∧ w'.cell? ⟨N1, 1, none⟩ = some (.int .u64 k1) ∧ w'.cell? ⟨N1, 2, none⟩ = some (.int .u64 m) ∧ w'.cell? ⟨N1, 3, none⟩ = some (.int .u64 hh) ∧ w'.cell? ⟨N1, 4, none⟩ = some (.pointer T) ∧ w'.cell? ⟨N2, 0, none⟩ = some (.string pk) ∧ w'.cell? ⟨N2, 1, none⟩ = some (.string pu) ∧ w'.cell? ⟨N3, 0, none⟩ = some (.string qk) ∧ w'.cell? ⟨N3, 1, none⟩ = some (.string qu)) w) (hB : Below w.heap.size w w') : (fun w' : World => w'.cell? ⟨N1, 0, none⟩ = some (.int .u64 k0) ∧ w'.cell? ⟨N1, 1, none⟩ = some (.int .u64 k1) ∧ w'.cell? ⟨N1, 2, none⟩ = some (.int .u64 m) ∧ w'.cell? ⟨N1, 3, none⟩ = some (.int .u64 hh) ∧ w'.cell? ⟨N1, 4, none⟩ = some (.pointer T) ∧ w'.cell? ⟨N2, 0, none⟩ = some (.string pk) ∧ w'.cell? ⟨N2, 1, none⟩ = some (.string pu) ∧ w'.cell? ⟨N3, 0, none⟩ = some (.string qk) ∧ w'.cell? ⟨N3, 1, none⟩ = some (.string qu)) w' := by
  have f : ∀ a v, w.cell? a = some v → w'.cell? a = some v := fun a v e => (hB.cell (World.block_lt_of_cell? w _ e)).trans e
  obtain ⟨a, b, c, d, e, f1, g, i, j⟩ := h
  exact ⟨f _ _ a, f _ _ b, f _ _ c, f _ _ d, f _ _ e, f _ _ f1, f _ _ g, f _ _ i, f _ _ j⟩
set_option maxHeartbeats 8000000 in
theorem put2_split (R : Nat → World → Prop) (k0 k1 m : Int) (hh : Nat) (tk : Option Nat) (b l C N1 N2 : Nat) (own : Bool) (T : Option Addr) (pk pu : ByteArray) (w : World) (hT : pt tk = .pointer T) (hl : l < 13)
    (hbx : Bx N1 N2 k0 k1 m hh T pk pu w) (ha : ∀ w', Calls Tryz.prog 79 #[.int .u64 hh, .int .i64 l] w' fun e w'' => e = .returned (.int .i64 C) ∧ w' = w'') (qk qu : ByteArray) (hqk : qk ≠ pk) (Q1 : World → Nat → World → Prop) (Q : Nat → World → Prop)
    (hk : ∀ w', Below w.heap.size w w' → Calls Tryz.prog 82 #[.pointer (some ⟨b, 0, none⟩), .int .i64 C] w' (KidPost none w'))
    (hp : ∀ w', Below w.heap.size w w' → Calls Tryz.prog 80 #[.pointer (some ⟨b, 0, none⟩), .int .i64 C] w' (PairPost (some (qk, qu)) w'))
    (hs : ∀ w', Below w.heap.size w w' → Calls Tryz.prog 87 #[.agg #[.int .u64 k0, .int .u64 k1, .int .u64 m, .int .u64 hh, .pointer T], .agg #[.string qk, .string qu], .int .i64 (l + 1 : Nat)] w' (RetB fun b1 w1 => Q1 w' b1 w1 ∧ Below w'.heap.size w' w1))
    (hr : ∀ w0 kb w', Below w.heap.size w w0 → Q1 w0 kb w' → Below w0.heap.size w0 w' → Calls Tryz.prog 51 #[.agg #[.int .u64 k0, .int .u64 k1, .int .u64 m, .int .u64 hh, .pointer T], .pointer (some ⟨kb, 0, none⟩), .int .i64 (l + 1 : Nat), .bool true, .agg #[.string pk, .string pu]] w' (RetB fun b1 w1 => Q b1 w1 ∧ Below w0.heap.size w0 w1))
    (ho : ∀ kb' w1, Q kb' w1 → own = true ∨ ∀ w', Below w1.heap.size w1 w' → Calls Tryz.prog 69 #[.pointer (some ⟨b, 0, none⟩), pt tk] w' fun e w'' => e = .returned (.bool false) ∧ w' = w'')
    (h : ∀ kb' w1, Q kb' w1 → ∀ w', Below w1.heap.size w1 w' → Calls Tryz.prog 23 #[.pointer (some ⟨b, 0, none⟩), pt tk, .int .i64 C, .pointer (some ⟨kb', 0, none⟩)] w' (RetB fun b1 w2 => R b1 w2 ∧ Bx N1 N2 k0 k1 m hh T pk pu w2 ∧ ∀ x, w.heap.size ≤ x → x < w'.heap.size → w2.heap[x]? = w'.heap[x]?)) (x0 x4 x6 x7 x8 x10 x11 x12 x13 x14 x15 x16 x17 x18 x19 x20 x21 x22 x23 x24 x25 x26 x27 x28 x29 x30 x31 x32 x33 x34 x35 x36 x37 x38 x39 x40 x41 x42 x43 x44 x45 x46 x47 x48 x49 x50 x51 x52 x53 x54 x55 x56 x57 x58 x59 x60 x61 x62 x63 x64 x65 x66 x67 x68 x69 x70 x71 x72 x73 x74 x75 x76 x77 x78 x79 x80 x81 x82 x83 x84 x85 x86 x87 x88 x89 x90 x91 : Value) :
    Code.wp Tryz.prog put2 (bodyPost Tryz.prog Tryz.f51 (RetB R)) ⟨#[x0, .pointer (some ⟨b, 0, none⟩), .int .i64 l, .bool own, x4, .pointer (some ⟨N1, 0, none⟩), x6, x7, x8, .pointer (some ⟨N2, 0, none⟩), x10, x11, x12, x13, x14, x15, x16, x17, x18, x19, x20, x21, x22, x23, x24, x25, x26, x27, x28, x29, x30, x31, x32, x33, x34, x35, x36, x37, x38, x39, x40, x41, x42, x43, x44, x45, x46, x47, x48, x49, x50, x51, x52, x53, x54, x55, x56, x57, x58, x59, x60, x61, x62, x63, x64, x65, x66, x67, x68, x69, x70, x71, x72, x73, x74, x75, x76, x77, x78, x79, x80, x81, x82, x83, x84, x85, x86, x87, x88, x89, x90, x91], []⟩ w := by
  have HM := Lib.hid (fun (N3 : Nat) (hN3 : w.heap.size ≤ N3) (kb' : Nat) (w1 : World) (hQ : Q kb' w1) (f : Value) (w2 : World) (hB : Below w1.heap.size w1 w2) (hc : w2.cell? ⟨N3, 0, none⟩ = some (.string qk) ∧ w2.cell? ⟨N3, 1, none⟩ = some (.string qu)) (hf : isKid w2 f C kb') => madeKid k0 k1 m hh tk b own f C kb' (fun b1 w3 => R b1 w3 ∧ Bx N1 N2 k0 k1 m hh T pk pu w3 ∧ w3.cell? ⟨N3, 0, none⟩ = some (.string qk) ∧ w3.cell? ⟨N3, 1, none⟩ = some (.string qu)) w2 hf ((ho kb' w1 hQ).imp_right fun g w' hw => g w' (hB.trans (hw.mono hB.size))) (fun w' hw => (h kb' w1 hQ w' (hB.trans (hw.mono hB.size))).mono (by
    rintro e w3 ⟨b1, he, hR, hb, hx⟩
    have z0 := (hw.cell (World.block_lt_of_cell? w2 _ hc.1)).trans hc.1
    have z1 := (hw.cell (World.block_lt_of_cell? w2 _ hc.2)).trans hc.2
    have e3 := hx N3 hN3 (World.block_lt_of_cell? w' _ z0)
    have f3 : ∀ i, w3.cell? ⟨N3, i, none⟩ = w'.cell? ⟨N3, i, none⟩ := fun i => by simp [World.cell?, e3]
    exact ⟨b1, he, hR, hb, (f3 0).trans z0, (f3 1).trans z1⟩)))
  rw [hT] at HM
  have c3 : w.cell? ⟨N1, 3, none⟩ = some (.int .u64 hh) := hbx.2.2.2.1
  have L13 : ¬ ((l : Int) = 13) := by omega
  have L2 : IntKind.i64.wrap ((l : Int) + 1) = ((l + 1 : Nat) : Int) := by rw [IntWalk.i64_in _ (by omega)]; omega
  have hkw := hk w (Below.refl _ _)
  have haw := ha w
  have HBX := Lib.hid hbx
  have HSI := Lib.hid hs
  have HRC := Lib.hid hr
  have hne := bytes_ne hqk
  clear ho h hbx hT hk ha hr hs hqk
  simp only []
  conv => arg 2; whnf
  go_wp2_with fail
  refine haw.mono ?_
  rintro e w' ⟨rfl, rfl⟩
  go_wp2_with fail
  refine hkw.mono ?_
  rintro e w1 ⟨rfl, hB1⟩
  simp only [pt, Option.isSome_none]
  have hpw := hp w1 hB1
  clear haw hkw c3
  go_wp2_with fail
  refine hpw.mono ?_
  rintro e w2 ⟨rfl, hB2⟩
  simp only [optP, Pr.v, Option.isSome_some]
  go_upto_region 9 with (fail)
  have hB12 := hB1.trans (hB2.mono hB1.size)
  have hN3 := hB12.size
  have hB3 := hB12.alloc hB12.size (.cells #[.string qk, .string qu] 52)
  have hnew := Blk.new w2 52 #[.string qk, .string qu]
  clear hpw hp hB1 hB2 hB12
  generalize w2.alloc (.cells #[.string qk, .string qu] 52) = W at *
  generalize w2.heap.size = N3 at *
  have hbW : Bx N1 N2 k0 k1 m hh T pk pu W := HBX.out.keep (hB3.block _ (World.block_lt_of_cell? w _ HBX.out.1)) (hB3.block _ (World.block_lt_of_cell? w _ HBX.out.2.2.2.2.2.1))
  have q0 : W.cell? ⟨N3, 0, none⟩ = some (.string qk) := hnew.cell 0
  have q1 : W.cell? ⟨N3, 1, none⟩ = some (.string qu) := hnew.cell 1
  have p0 : W.cell? ⟨N2, 0, none⟩ = some (.string pk) := hbW.2.2.2.2.2.1
  have hS : (fun w' : World => w'.cell? ⟨N1, 0, none⟩ = some (.int .u64 k0) ∧ w'.cell? ⟨N1, 1, none⟩ = some (.int .u64 k1) ∧ w'.cell? ⟨N1, 2, none⟩ = some (.int .u64 m) ∧ w'.cell? ⟨N1, 3, none⟩ = some (.int .u64 hh) ∧ w'.cell? ⟨N1, 4, none⟩ = some (.pointer T) ∧ w'.cell? ⟨N2, 0, none⟩ = some (.string pk) ∧ w'.cell? ⟨N2, 1, none⟩ = some (.string pu) ∧ w'.cell? ⟨N3, 0, none⟩ = some (.string qk) ∧ w'.cell? ⟨N3, 1, none⟩ = some (.string qu)) W.drew := ⟨hbW.1, hbW.2.1, hbW.2.2.1, hbW.2.2.2.1, hbW.2.2.2.2.1, hbW.2.2.2.2.2.1, hbW.2.2.2.2.2.2, q0, q1⟩
  have hB0 : Below w.heap.size w W.drew := hB3.drew
  have hsi := HSI.out _ hB0
  have HRC2 := Lib.hid (fun kb w' => HRC.out W.drew kb w' hB0)
  clear HBX hnew hB3 hbW HSI HRC
  obtain ⟨J, hJ⟩ : ∃ J : Int, J = ((l + 1 : Nat) : Int) := ⟨_, rfl⟩
  rw [← hJ] at hsi HRC2 L2
  clear hJ
  go_upto_region 10 with (fail)
  clear q0 q1 p0 hne
  go_region_held3 (fun w' : World => w'.cell? ⟨N1, 0, none⟩ = some (.int .u64 k0) ∧ w'.cell? ⟨N1, 1, none⟩ = some (.int .u64 k1) ∧ w'.cell? ⟨N1, 2, none⟩ = some (.int .u64 m) ∧ w'.cell? ⟨N1, 3, none⟩ = some (.int .u64 hh) ∧ w'.cell? ⟨N1, 4, none⟩ = some (.pointer T) ∧ w'.cell? ⟨N2, 0, none⟩ = some (.string pk) ∧ w'.cell? ⟨N2, 1, none⟩ = some (.string pu) ∧ w'.cell? ⟨N3, 0, none⟩ = some (.string qk) ∧ w'.cell? ⟨N3, 1, none⟩ = some (.string qu)) (first | exact hS | exact hK) (first
    | (have _g := hf; clear _g; go_at_call 84; refine (HM.out _ hN3 _ _ hQ _ _ hBf ⟨hK4.2.2.2.2.2.2.2.1, hK4.2.2.2.2.2.2.2.2⟩ hf).mono ?_; rintro e w5 ⟨b1, rfl, hR, hK5, hK6⟩; have hK : (fun w' : World => w'.cell? ⟨N1, 0, none⟩ = some (.int .u64 k0) ∧ w'.cell? ⟨N1, 1, none⟩ = some (.int .u64 k1) ∧ w'.cell? ⟨N1, 2, none⟩ = some (.int .u64 m) ∧ w'.cell? ⟨N1, 3, none⟩ = some (.int .u64 hh) ∧ w'.cell? ⟨N1, 4, none⟩ = some (.pointer T) ∧ w'.cell? ⟨N2, 0, none⟩ = some (.string pk) ∧ w'.cell? ⟨N2, 1, none⟩ = some (.string pu) ∧ w'.cell? ⟨N3, 0, none⟩ = some (.string qk) ∧ w'.cell? ⟨N3, 1, none⟩ = some (.string qu)) w5 := ⟨hK5.1, hK5.2.1, hK5.2.2.1, hK5.2.2.2.1, hK5.2.2.2.2.1, hK5.2.2.2.2.2.1, hK5.2.2.2.2.2.2, hK6.1, hK6.2⟩)
    | (have _g := hQ; clear _g; go_at_call 86; refine (mkKid C kb' _).mono ?_; rintro e w4 ⟨f, rfl, hf, hBf⟩; have hK : (fun w' : World => w'.cell? ⟨N1, 0, none⟩ = some (.int .u64 k0) ∧ w'.cell? ⟨N1, 1, none⟩ = some (.int .u64 k1) ∧ w'.cell? ⟨N1, 2, none⟩ = some (.int .u64 m) ∧ w'.cell? ⟨N1, 3, none⟩ = some (.int .u64 hh) ∧ w'.cell? ⟨N1, 4, none⟩ = some (.pointer T) ∧ w'.cell? ⟨N2, 0, none⟩ = some (.string pk) ∧ w'.cell? ⟨N2, 1, none⟩ = some (.string pu) ∧ w'.cell? ⟨N3, 0, none⟩ = some (.string qk) ∧ w'.cell? ⟨N3, 1, none⟩ = some (.string qu)) w4 := keep10 (w := w3) hK3 hBf; have hK4 := hK)
    | (have _g := hQ1; clear _g; go_at_call 51; refine (HRC2.out _ _ hQ1 hBs).mono ?_; rintro e w3 ⟨kb', rfl, hQ, hB33⟩; have hK : (fun w' : World => w'.cell? ⟨N1, 0, none⟩ = some (.int .u64 k0) ∧ w'.cell? ⟨N1, 1, none⟩ = some (.int .u64 k1) ∧ w'.cell? ⟨N1, 2, none⟩ = some (.int .u64 m) ∧ w'.cell? ⟨N1, 3, none⟩ = some (.int .u64 hh) ∧ w'.cell? ⟨N1, 4, none⟩ = some (.pointer T) ∧ w'.cell? ⟨N2, 0, none⟩ = some (.string pk) ∧ w'.cell? ⟨N2, 1, none⟩ = some (.string pu) ∧ w'.cell? ⟨N3, 0, none⟩ = some (.string qk) ∧ w'.cell? ⟨N3, 1, none⟩ = some (.string qu)) w3 := keep10 (w := W.drew) hS hB33; have hK3 := hK)
    | (go_at_call 87; refine hsi.mono ?_; rintro e w6 ⟨kb, rfl, hQ1, hBs⟩; have hK : (fun w' : World => w'.cell? ⟨N1, 0, none⟩ = some (.int .u64 k0) ∧ w'.cell? ⟨N1, 1, none⟩ = some (.int .u64 k1) ∧ w'.cell? ⟨N1, 2, none⟩ = some (.int .u64 m) ∧ w'.cell? ⟨N1, 3, none⟩ = some (.int .u64 hh) ∧ w'.cell? ⟨N1, 4, none⟩ = some (.pointer T) ∧ w'.cell? ⟨N2, 0, none⟩ = some (.string pk) ∧ w'.cell? ⟨N2, 1, none⟩ = some (.string pu) ∧ w'.cell? ⟨N3, 0, none⟩ = some (.string qk) ∧ w'.cell? ⟨N3, 1, none⟩ = some (.string qu)) w6 := keep10 (w := W.drew) hS hBs))
  clear HM
  go_wp2_with fail
  go_ret
  exact ⟨b1, rfl, hR⟩
end Go.Proofs.YtchimfgbdfmegaaGreat
/- A trie of one pair; Put below the root, as a whole. -/
namespace Go.Proofs.YtchimfgbdfmegaaGreat
open Go.RowKit Go.Lib
set_option linter.unusedVariables false
set_option maxRecDepth 100000
set_option linter.unusedSimpArgs false
set_option maxRecDepth 100000
attribute [local irreducible] cnt
theorem Bx.below {N1 N2 : Nat} {k0 k1 m hh : Int} {T : Option Addr} {pk pu : ByteArray} {w w' : World} (h : Bx N1 N2 k0 k1 m hh T pk pu w) (hB : Below w.heap.size w w') : Bx N1 N2 k0 k1 m hh T pk pu w' :=
  h.keep (hB.block _ (World.block_lt_of_cell? w _ h.1)) (hB.block _ (World.block_lt_of_cell? w _ h.2.2.2.2.2.1))
theorem keepSC {N1 N2 : Nat} {k0 k1 m hh : Int} {T : Option Addr} {pk pu : ByteArray} {w w' : World} (h : (fun w' : World => w'.cell? ⟨N1, 0, none⟩ = some (.int .u64 k0) ∧ w'.cell? ⟨N1, 1, none⟩ = some (.int .u64 k1) ∧ w'.cell? ⟨N1, 2, none⟩ = some (.int .u64 m) ∧ w'.cell? ⟨N1, 3, none⟩ = some (.int .u64 hh) ∧ w'.cell? ⟨N1, 4, none⟩ = some (.pointer T) ∧ w'.cell? ⟨N2, 0, none⟩ = some (.string pk) ∧ w'.cell? ⟨N2, 1, none⟩ = some (.string pu)) w) (hB : Below w.heap.size w w') : (fun w' : World => w'.cell? ⟨N1, 0, none⟩ = some (.int .u64 k0) ∧ w'.cell? ⟨N1, 1, none⟩ = some (.int .u64 k1) ∧ w'.cell? ⟨N1, 2, none⟩ = some (.int .u64 m) ∧ w'.cell? ⟨N1, 3, none⟩ = some (.int .u64 hh) ∧ w'.cell? ⟨N1, 4, none⟩ = some (.pointer T) ∧ w'.cell? ⟨N2, 0, none⟩ = some (.string pk) ∧ w'.cell? ⟨N2, 1, none⟩ = some (.string pu)) w' := Bx.below (w := w) h hB
/-- boxes that were just made -/
theorem Bx.new (w : World) (k0 k1 m hh : Int) (T : Option Addr) (pk pu : ByteArray) : Bx w.heap.size (w.heap.size + 1) k0 k1 m hh T pk pu ((w.alloc (.cells #[.int .u64 k0, .int .u64 k1, .int .u64 m, .int .u64 hh, .pointer T] 112)).alloc (.cells #[.string pk, .string pu] 52)) := by
  have b1 := (Blk.new w 112 #[.int .u64 k0, .int .u64 k1, .int .u64 m, .int .u64 hh, .pointer T]).alloc (.cells #[.string pk, .string pu] 52)
  have b2 := Blk.new (w.alloc (.cells #[.int .u64 k0, .int .u64 k1, .int .u64 m, .int .u64 hh, .pointer T] 112)) 52 #[.string pk, .string pu]
  have e : (w.alloc (.cells #[.int .u64 k0, .int .u64 k1, .int .u64 m, .int .u64 hh, .pointer T] 112)).heap.size = w.heap.size + 1 := by simp
  rw [e] at b2
  exact ⟨b1.cell 0, b1.cell 1, b1.cell 2, b1.cell 3, b1.cell 4, b2.cell 0, b2.cell 1⟩
theorem own_none {w : World} {tk : Option Nat} {lv : Bool} (h : TV w tk lv) : ownB none tk lv = false := by
  unfold ownB
  rcases h with ⟨rfl, rfl⟩ | ⟨t, p, id, rfl, _⟩
  · rfl
  · simp
section
variable {H : ByteArray → Nat} {X F G : Nat → Prop} {tk : Option Nat} {lv : Bool} {base : Nat} {w w' w1 w2 : World}
/-- a trie of new nodes alone -/
def Fresh (H : ByteArray → Nat) (X : Nat → Prop) (tk : Option Nat) (lv : Bool) (base n l : Nat) (ps : List Pr) (w : World) (b : Nat) (w' : World) : Prop :=
  ∃ F, Trie H X tk lv base w' n l b ps F ∧ TV w' tk lv ∧ ∀ x, F x → w.heap.size ≤ x
theorem sub_one (H : ByteArray → Nat) (l c : Nat) (q : Pr) : sub H l c [q] = if chk H l q.1 = c then [q] else [] := by
  unfold sub
  by_cases h : chk H l q.1 = c <;> simp [h]
/-- one pair, put into a new inner node -/
theorem fresh_pair {n l b : Nat} {q : Pr} {e : Ending} (hcx : Cx X tk lv base w) (hB : Below w.heap.size w w1) (hI : Inn w.heap.size w1 b none (fun _ => .no) (.slice none 0 0) (.slice none 0 0))
    (hp : InnPost base (ownB none tk lv) b (.slice none 0 0) (.slice none 0 0) (newOw tk lv) (Slots.put (fun _ => .no) (chk H l q.1) (.pr q)) w1 e w2) :
    RetB (fun b1 w2 => (Fresh H X tk lv base (n + 1) l [q] w b1 w2 ∧ Below w.heap.size w w2) ∧ Below w1.heap.size w1 w2) e w2 := by
  have hcx1 := hcx.below hB
  have hf := own_none hcx1.tv
  obtain ⟨b1, e1, F', hT, hk, hv, hF⟩ := Trie.change (H := H) (F := fun _ => False) (G := fun _ => False) (n := n) (l := l) (ps := []) (ps' := [q]) (qs := [q]) (Fs := fun _ _ => False) hcx1 (hI.base hcx.base) ⟨fun h => (by rw [hf] at h; cases h), fun _ => ⟨fun _ h => h, fun _ _ _ h => h⟩⟩ (fun c hc => ⟨rfl, fun _ h => h⟩) (chk_lt H l q.1) (KeepF.refl _ w1) (x := .pr q) ⟨rfl, fun _ h => h⟩ (fun _ h => h.elim) hp (fun c hc => by rw [sub_one, if_neg (fun h => hc h.symm)]; rfl) (by rw [sub_one, if_pos rfl])
  have hBB := hk.below (fun _ h => h)
  exact ⟨b1, e1, ⟨⟨F', hT, hv, fun x hx => (hF x hx).elim (fun h => h.elim) (fun h => Nat.le_trans hB.size h)⟩, hB.trans (hBB.mono hB.size)⟩, hBB⟩
/-- .. into a new bucket -/
theorem fresh_bucket {l b : Nat} {q : Pr} {e : Ending} (hcx : Cx X tk lv base w) (hB : Below w.heap.size w w1) (hI : NdV w.heap.size w1 b (pt none) true 0 0 (.slice none 0 0) (.slice none 0 0) [] [])
    (hp : ChgPost base (ownB none tk lv) b (.slice none 0 0) (.slice none 0 0) (newOw tk lv) true 0 0 (putK [] q) [] w1 e w2) :
    RetB (fun b1 w2 => (Fresh H X tk lv base 0 l [q] w b1 w2 ∧ Below w.heap.size w w2) ∧ Below w1.heap.size w1 w2) e w2 := by
  have hcx1 := hcx.below hB
  have hf := own_none hcx1.tv
  obtain ⟨b1, e1, F', hT, hk, hv, hF⟩ := Trie.changeB (H := H) (F := fun _ => False) (l := l) hcx1 ⟨hI.base hcx.base, List.Pairwise.nil⟩ ⟨fun h => (by rw [hf] at h; cases h), fun _ => ⟨fun _ h => h, fun _ _ _ h => h⟩⟩ hp (put_rises q List.Pairwise.nil)
  have hBB := hk.below (fun _ h => h)
  exact ⟨b1, e1, ⟨⟨F', hT, hv, fun x hx => (hF x hx).elim (fun h => h.elim) (fun h => Nat.le_trans hB.size h)⟩, hB.trans (hBB.mono hB.size)⟩, hBB⟩
end
set_option maxHeartbeats 8000000 in
theorem single_deep (k0 k1 m hh : Int) (X : Nat → Prop) (tk : Option Nat) (lv : Bool) (base l : Nat) (T : Option Addr) (pk pu : ByteArray) (w : World) (hT : pt tk = .pointer T) (hl : l = 13) (hcx : Cx X tk lv base w) :
    Calls Tryz.prog 87 #[.agg #[.int .u64 k0, .int .u64 k1, .int .u64 m, .int .u64 hh, .pointer T], .agg #[.string pk, .string pu], .int .i64 l] w (RetB fun b1 w1 => Fresh (hz k0 k1 m) X tk lv base 0 l [(pk, pu)] w b1 w1 ∧ Below w.heap.size w w1) := by
  have hB0 := ((Below.refl _ w).alloc (Nat.le_refl _) (.cells #[.int .u64 k0, .int .u64 k1, .int .u64 m, .int .u64 hh, .pointer T] 112)).alloc (by simp) (.cells #[.string pk, .string pu] 52)
  have hbx := Bx.new w k0 k1 m hh T pk pu
  have HP := Lib.hid (fun (b : Nat) (w1 : World) (hB : Below w.heap.size w w1) (hI : NdV w.heap.size w1 b (pt none) true 0 0 (.slice none 0 0) (.slice none 0 0) [] []) => (put_in base b (pk, pu) none tk false lv 0 0 _ _ [] [] w1 (hI.base hcx.base) (hcx.tv.below hB) (TV.nil _) List.Pairwise.nil (by simp) (by simp) (Nat.le_trans hcx.base hB.size)).mono fun e w2 hp => fresh_bucket (H := hz k0 k1 m) (l := l) hcx hB hI hp)
  rw [hT] at HP
  unfold Pr.v at0 at HP
  subst hl
  go_enter Tryz.func87, Tryz.ntmps87
  go_upto_region 1 with (fail)
  generalize (w.alloc (.cells #[.int .u64 k0, .int .u64 k1, .int .u64 m, .int .u64 hh, .pointer T] 112)).alloc (.cells #[.string pk, .string pu] 52) = W at *
  have e1 : (w.alloc (.cells #[.int .u64 k0, .int .u64 k1, .int .u64 m, .int .u64 hh, .pointer T] 112)).heap.size = w.heap.size + 1 := by simp
  generalize w.heap.size + 1 = N2 at *
  obtain ⟨N1, hN1⟩ : ∃ N1, N1 = w.heap.size := ⟨_, rfl⟩
  rw [← hN1] at hbx ⊢
  clear e1 hN1
  have hS : (fun w' : World => w'.cell? ⟨N1, 0, none⟩ = some (.int .u64 k0) ∧ w'.cell? ⟨N1, 1, none⟩ = some (.int .u64 k1) ∧ w'.cell? ⟨N1, 2, none⟩ = some (.int .u64 m) ∧ w'.cell? ⟨N1, 3, none⟩ = some (.int .u64 hh) ∧ w'.cell? ⟨N1, 4, none⟩ = some (.pointer T) ∧ w'.cell? ⟨N2, 0, none⟩ = some (.string pk) ∧ w'.cell? ⟨N2, 1, none⟩ = some (.string pu)) W.drew := hbx
  have hBd : Below w.heap.size w W.drew := hB0.drew
  clear hbx hB0 hcx hT
  go_upto_region 2 with (fail)
  go_region_held3 (fun w' : World => w'.cell? ⟨N1, 0, none⟩ = some (.int .u64 k0) ∧ w'.cell? ⟨N1, 1, none⟩ = some (.int .u64 k1) ∧ w'.cell? ⟨N1, 2, none⟩ = some (.int .u64 m) ∧ w'.cell? ⟨N1, 3, none⟩ = some (.int .u64 hh) ∧ w'.cell? ⟨N1, 4, none⟩ = some (.pointer T) ∧ w'.cell? ⟨N2, 0, none⟩ = some (.string pk) ∧ w'.cell? ⟨N2, 1, none⟩ = some (.string pu)) (first | exact hS | exact hK) (first
    | (have _g := hI; clear _g; go_at_call 40; refine (HP.out _ _ hBb hI).mono ?_; rintro e w3 ⟨b1, rfl, hR, hB3⟩; have hK : (fun w' : World => w'.cell? ⟨N1, 0, none⟩ = some (.int .u64 k0) ∧ w'.cell? ⟨N1, 1, none⟩ = some (.int .u64 k1) ∧ w'.cell? ⟨N1, 2, none⟩ = some (.int .u64 m) ∧ w'.cell? ⟨N1, 3, none⟩ = some (.int .u64 hh) ∧ w'.cell? ⟨N1, 4, none⟩ = some (.pointer T) ∧ w'.cell? ⟨N2, 0, none⟩ = some (.string pk) ∧ w'.cell? ⟨N2, 1, none⟩ = some (.string pu)) w3 := Bx.below (w := w2) hK2 hB3)
    | (go_at_call 39; refine (bucket_any _).mono ?_; rintro e w2 ⟨rfl, hI, hB2⟩; unfold at0; have hK : (fun w' : World => w'.cell? ⟨N1, 0, none⟩ = some (.int .u64 k0) ∧ w'.cell? ⟨N1, 1, none⟩ = some (.int .u64 k1) ∧ w'.cell? ⟨N1, 2, none⟩ = some (.int .u64 m) ∧ w'.cell? ⟨N1, 3, none⟩ = some (.int .u64 hh) ∧ w'.cell? ⟨N1, 4, none⟩ = some (.pointer T) ∧ w'.cell? ⟨N2, 0, none⟩ = some (.string pk) ∧ w'.cell? ⟨N2, 1, none⟩ = some (.string pu)) w2 := Bx.below (w := W.drew) hS hB2; have hK2 := hK; replace hI := hI.base hBd.size; have hBb := hBd.trans (hB2.mono hBd.size)))
  clear HP
  go_wp2_with fail
  go_ret
  exact ⟨b1, rfl, hR⟩
set_option maxHeartbeats 8000000 in
theorem single_inner (k0 k1 m hh : Int) (X : Nat → Prop) (tk : Option Nat) (lv : Bool) (base n l : Nat) (T : Option Addr) (pk pu : ByteArray) (w : World) (hT : pt tk = .pointer T) (hl : l < 13) (hcx : Cx X tk lv base w) (h0 : U64 k0) (h1 : U64 k1) (hs : pk.size ≤ 1000) :
    Calls Tryz.prog 87 #[.agg #[.int .u64 k0, .int .u64 k1, .int .u64 m, .int .u64 hh, .pointer T], .agg #[.string pk, .string pu], .int .i64 l] w (RetB fun b1 w1 => Fresh (hz k0 k1 m) X tk lv base (n + 1) l [(pk, pu)] w b1 w1 ∧ Below w.heap.size w w1) := by
  have hB0 := ((Below.refl _ w).alloc (Nat.le_refl _) (.cells #[.int .u64 k0, .int .u64 k1, .int .u64 m, .int .u64 hh, .pointer T] 112)).alloc (by simp) (.cells #[.string pk, .string pu] 52)
  have hbx := Bx.new w k0 k1 m hh T pk pu
  have hc := chk_lt (hz k0 k1 m) l pk
  have HP := Lib.hid (fun (b : Nat) (w1 : World) (hB : Below w.heap.size w w1) (hI : Inn w.heap.size w1 b none (fun _ => .no) (.slice none 0 0) (.slice none 0 0)) => (Inn.setPair base b (chk (hz k0 k1 m) l pk) none tk false lv _ _ _ w1 (hI.base hcx.base) (hcx.tv.below hB) (TV.nil _) hc (Nat.le_trans hcx.base hB.size) (pk, pu)).mono fun e w2 hp => fresh_pair (H := hz k0 k1 m) (n := n) (l := l) (q := (pk, pu)) hcx hB hI hp)
  rw [hT] at HP
  unfold Pr.v at0 at HP
  have ha := fun w' => at_chk (hz k0 k1 m) l pk w' hl (hz_int k0 k1 m pk).2
  have hha := fun w' => hash_hz k0 k1 m pk w' h0 h1 hs
  have L13 : ¬ ((l : Int) = 13) := by omega
  generalize chk (hz k0 k1 m) l pk = C at *
  obtain ⟨Hk, hHk⟩ : ∃ Hk, Hk = hz k0 k1 m pk := ⟨_, rfl⟩
  rw [← hHk] at ha hha
  clear hHk
  go_enter Tryz.func87, Tryz.ntmps87
  go_upto_region 1 with (fail)
  generalize (w.alloc (.cells #[.int .u64 k0, .int .u64 k1, .int .u64 m, .int .u64 hh, .pointer T] 112)).alloc (.cells #[.string pk, .string pu] 52) = W at *
  generalize w.heap.size + 1 = N2 at *
  obtain ⟨N1, hN1⟩ : ∃ N1, N1 = w.heap.size := ⟨_, rfl⟩
  rw [← hN1] at hbx ⊢
  clear hN1
  have hS : (fun w' : World => w'.cell? ⟨N1, 0, none⟩ = some (.int .u64 k0) ∧ w'.cell? ⟨N1, 1, none⟩ = some (.int .u64 k1) ∧ w'.cell? ⟨N1, 2, none⟩ = some (.int .u64 m) ∧ w'.cell? ⟨N1, 3, none⟩ = some (.int .u64 hh) ∧ w'.cell? ⟨N1, 4, none⟩ = some (.pointer T) ∧ w'.cell? ⟨N2, 0, none⟩ = some (.string pk) ∧ w'.cell? ⟨N2, 1, none⟩ = some (.string pu)) W.drew := hbx
  have hBd : Below w.heap.size w W.drew := hB0.drew
  clear hbx hB0 hcx hT h0 h1 hs
  go_upto_region 3 with (fail)
  go_region_held3 (fun w' : World => w'.cell? ⟨N1, 0, none⟩ = some (.int .u64 k0) ∧ w'.cell? ⟨N1, 1, none⟩ = some (.int .u64 k1) ∧ w'.cell? ⟨N1, 2, none⟩ = some (.int .u64 m) ∧ w'.cell? ⟨N1, 3, none⟩ = some (.int .u64 hh) ∧ w'.cell? ⟨N1, 4, none⟩ = some (.pointer T) ∧ w'.cell? ⟨N2, 0, none⟩ = some (.string pk) ∧ w'.cell? ⟨N2, 1, none⟩ = some (.string pu)) (first | exact hS | assumption | exact keepSC (by assumption) hBl) (first
    | (have _g := hC; have _g := hA; clear _g; go_at_call 21; refine (HP.out _ _ hBd hA).mono ?_; rintro e w9 ⟨b1, rfl, hR, hBl⟩)
    | (go_at_call 79; refine (ha _).mono ?_; rintro e w' ⟨rfl, rfl⟩; have hC := True.intro)
    | (go_at_call 49; refine (hha _).mono ?_; rintro e wH ⟨rfl, hBl⟩; (first | (replace hA := hA.below hBl) | skip); replace hBd := hBd.trans (hBl.mono hBd.size))
    | (go_at_call 24; refine (Inn.new _).mono ?_; rintro e wI ⟨b0, rfl, hb0, hA, hBl⟩; unfold at0; replace hA := hA.base hBd.size; replace hBd := hBd.trans (hBl.mono hBd.size)))
  clear HP
  go_wp2_with fail
  go_ret
  exact ⟨b1, rfl, hR⟩
theorem single_any (k0 k1 m hh : Int) (X : Nat → Prop) (tk : Option Nat) (lv : Bool) (base n l : Nat) (T : Option Addr) (pk pu : ByteArray) (w : World) (hT : pt tk = .pointer T) (hl : n + l = 13) (hcx : Cx X tk lv base w) (h0 : U64 k0) (h1 : U64 k1) (hs : pk.size ≤ 1000) :
    Calls Tryz.prog 87 #[.agg #[.int .u64 k0, .int .u64 k1, .int .u64 m, .int .u64 hh, .pointer T], .agg #[.string pk, .string pu], .int .i64 l] w (RetB fun b1 w1 => Fresh (hz k0 k1 m) X tk lv base n l [(pk, pu)] w b1 w1 ∧ Below w.heap.size w w1) := by
  cases n with
  | zero => exact single_deep k0 k1 m hh X tk lv base l T pk pu w hT (by omega) hcx
  | succ n => exact single_inner k0 k1 m hh X tk lv base n l T pk pu w hT (by omega) hcx h0 h1 hs
set_option maxHeartbeats 4000000 in
theorem put_head (post : Ending → World → Prop) (k0 k1 m hh : Int) (b l : Nat) (own ours : Bool) (T : Option Addr) (pk pu : ByteArray) (w : World) (ho : ours = true ∨ own = false)
    (hown : ∀ w', Below w.heap.size w w' → Calls Tryz.prog 69 #[.pointer (some ⟨b, 0, none⟩), .pointer T] w' fun e w'' => e = .returned (.bool own) ∧ w' = w'')
    (hm : ∀ (N1 N2 : Nat) (w1 : World) (x0 x4 x6 x7 x8 x10 x11 x12 x13 x14 x15 x16 x17 x18 x19 x20 x21 x22 x23 x24 x25 x26 x27 x28 x29 x30 x31 x32 x33 x34 x35 x36 x37 x38 x39 x40 x41 x42 x43 x44 x45 x46 x47 x48 x49 x50 x51 x52 x53 x54 x55 x56 x57 x58 x59 x60 x61 x62 x63 x64 x65 x66 x67 x68 x69 x70 x71 x72 x73 x74 x75 x76 x77 x78 x79 x80 x81 x82 x83 x84 x85 x86 x87 x88 x89 x90 x91 : Value), Below w.heap.size w w1 → w.heap.size ≤ N1 → w.heap.size ≤ N2 → Bx N1 N2 k0 k1 m hh T pk pu w1 → Code.wp Tryz.prog put2 (bodyPost Tryz.prog Tryz.f51 post) ⟨#[x0, .pointer (some ⟨b, 0, none⟩), .int .i64 l, .bool own, x4, .pointer (some ⟨N1, 0, none⟩), x6, x7, x8, .pointer (some ⟨N2, 0, none⟩), x10, x11, x12, x13, x14, x15, x16, x17, x18, x19, x20, x21, x22, x23, x24, x25, x26, x27, x28, x29, x30, x31, x32, x33, x34, x35, x36, x37, x38, x39, x40, x41, x42, x43, x44, x45, x46, x47, x48, x49, x50, x51, x52, x53, x54, x55, x56, x57, x58, x59, x60, x61, x62, x63, x64, x65, x66, x67, x68, x69, x70, x71, x72, x73, x74, x75, x76, x77, x78, x79, x80, x81, x82, x83, x84, x85, x86, x87, x88, x89, x90, x91], []⟩ w1) :
    Calls Tryz.prog 51 #[.agg #[.int .u64 k0, .int .u64 k1, .int .u64 m, .int .u64 hh, .pointer T], .pointer (some ⟨b, 0, none⟩), .int .i64 l, .bool ours, .agg #[.string pk, .string pu]] w post := by
  have hB0 := ((Below.refl _ w).alloc (Nat.le_refl _) (.cells #[.int .u64 k0, .int .u64 k1, .int .u64 m, .int .u64 hh, .pointer T] 112)).alloc (by simp) (.cells #[.string pk, .string pu] 52)
  have hbx := Bx.new w k0 k1 m hh T pk pu
  have hof := hown _ hB0
  have HM := Lib.hid (hm w.heap.size (w.heap.size + 1))
  have hle : w.heap.size ≤ w.heap.size + 1 := Nat.le_succ _
  clear hm hown
  cases ours with
  | true =>
    clear ho
    go_enter Tryz.func51, Tryz.ntmps51
    go_upto_region 1 with (fail)
    generalize (w.alloc (.cells #[.int .u64 k0, .int .u64 k1, .int .u64 m, .int .u64 hh, .pointer T] 112)).alloc (.cells #[.string pk, .string pu] 52) = W at *
    have HG := Lib.hid (fun x0 x4 x6 x7 x8 x10 x11 x12 x13 x14 x15 x16 x17 x18 x19 x20 x21 x22 x23 x24 x25 x26 x27 x28 x29 x30 x31 x32 x33 x34 x35 x36 x37 x38 x39 x40 x41 x42 x43 x44 x45 x46 x47 x48 x49 x50 x51 x52 x53 x54 x55 x56 x57 x58 x59 x60 x61 x62 x63 x64 x65 x66 x67 x68 x69 x70 x71 x72 x73 x74 x75 x76 x77 x78 x79 x80 x81 x82 x83 x84 x85 x86 x87 x88 x89 x90 x91 => HM.out W x0 x4 x6 x7 x8 x10 x11 x12 x13 x14 x15 x16 x17 x18 x19 x20 x21 x22 x23 x24 x25 x26 x27 x28 x29 x30 x31 x32 x33 x34 x35 x36 x37 x38 x39 x40 x41 x42 x43 x44 x45 x46 x47 x48 x49 x50 x51 x52 x53 x54 x55 x56 x57 x58 x59 x60 x61 x62 x63 x64 x65 x66 x67 x68 x69 x70 x71 x72 x73 x74 x75 x76 x77 x78 x79 x80 x81 x82 x83 x84 x85 x86 x87 x88 x89 x90 x91 hB0 (Nat.le_refl _) hle hbx)
    have c4 := hbx.2.2.2.2.1
    clear HM hB0 hbx
    generalize w.heap.size + 1 = N2 at *
    generalize w.heap.size = N1 at *
    go_wp2_with fail
    refine hof.mono ?_
    rintro e w' ⟨rfl, rfl⟩
    dsimp only
    repeat (first | exact HG.out _ _ _ _ _ _ _ _ _ _ _ _ _ _ _ _ _ _ _ _ _ _ _ _ _ _ _ _ _ _ _ _ _ _ _ _ _ _ _ _ _ _ _ _ _ _ _ _ _ _ _ _ _ _ _ _ _ _ _ _ _ _ _ _ _ _ _ _ _ _ _ _ _ _ _ _ _ _ _ _ _ _ _ _ _ _ _ | go_step)
  | false =>
    obtain rfl : own = false := ho.resolve_left (by simp)
    clear ho hof
    go_enter Tryz.func51, Tryz.ntmps51
    go_upto_region 1 with (fail)
    generalize (w.alloc (.cells #[.int .u64 k0, .int .u64 k1, .int .u64 m, .int .u64 hh, .pointer T] 112)).alloc (.cells #[.string pk, .string pu] 52) = W at *
    have HG := Lib.hid (fun x0 x4 x6 x7 x8 x10 x11 x12 x13 x14 x15 x16 x17 x18 x19 x20 x21 x22 x23 x24 x25 x26 x27 x28 x29 x30 x31 x32 x33 x34 x35 x36 x37 x38 x39 x40 x41 x42 x43 x44 x45 x46 x47 x48 x49 x50 x51 x52 x53 x54 x55 x56 x57 x58 x59 x60 x61 x62 x63 x64 x65 x66 x67 x68 x69 x70 x71 x72 x73 x74 x75 x76 x77 x78 x79 x80 x81 x82 x83 x84 x85 x86 x87 x88 x89 x90 x91 => HM.out W x0 x4 x6 x7 x8 x10 x11 x12 x13 x14 x15 x16 x17 x18 x19 x20 x21 x22 x23 x24 x25 x26 x27 x28 x29 x30 x31 x32 x33 x34 x35 x36 x37 x38 x39 x40 x41 x42 x43 x44 x45 x46 x47 x48 x49 x50 x51 x52 x53 x54 x55 x56 x57 x58 x59 x60 x61 x62 x63 x64 x65 x66 x67 x68 x69 x70 x71 x72 x73 x74 x75 x76 x77 x78 x79 x80 x81 x82 x83 x84 x85 x86 x87 x88 x89 x90 x91 hB0 (Nat.le_refl _) hle hbx)
    clear HM hB0 hbx
    generalize w.heap.size + 1 = N2 at *
    generalize w.heap.size = N1 at *
    repeat (first | exact HG.out _ _ _ _ _ _ _ _ _ _ _ _ _ _ _ _ _ _ _ _ _ _ _ _ _ _ _ _ _ _ _ _ _ _ _ _ _ _ _ _ _ _ _ _ _ _ _ _ _ _ _ _ _ _ _ _ _ _ _ _ _ _ _ _ _ _ _ _ _ _ _ _ _ _ _ _ _ _ _ _ _ _ _ _ _ _ _ | go_step)
end Go.Proofs.YtchimfgbdfmegaaGreat
