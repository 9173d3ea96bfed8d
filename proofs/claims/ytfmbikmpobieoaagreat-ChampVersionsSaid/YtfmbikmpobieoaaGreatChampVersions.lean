/- ChampVersions: for every hasher and every script of changes of any version the law returns true: each version, at the end, has just its own pairs, in the shape of the document. Conditions: none beyond the given statement. -/
import Derived.Test.YtfmbikmpobieoaaGreatRows
import Derived.WalkKit
import Derived.ProofKit
import Derived.OpenShut
import Derived.ShutString
import Derived.ChangeOld
import Derived.Below
import Derived.BigQuiet
import Derived.Deep.RegionHeld3
import Derived.Carry
import Derived.Lib.SmallJoins
import Derived.Test.YtfmbikmpobieoaaGreatMJc
namespace Go.Proofs.YtfmbikmpobieoaaGreat.champVersions
open Go.ChangeShapes Go.WideShapes Go.ChangeAt Go.RowKit Go.Joins Go.Lib
open Go.ChangeMaps (open_string shut_string)
set_option linter.unusedVariables false
set_option linter.unusedSimpArgs false
set_option maxRecDepth 100000
attribute [local irreducible] cnt

theorem own : ownKnob Tryz.prog.godebug = none := by kernel_rfl
theorem laidOut : laidOutB Tryz.prog = true := by kernel_rfl
theorem keep5v {w w' : World} {N2 g5 g6 i j : Nat} {a b c d e : Value} (h : w.cell? ⟨N2, 0, none⟩ = some a ∧ w.cell? ⟨N2, 1, none⟩ = some b ∧ w.cell? ⟨N2, 2, none⟩ = some c ∧ w.cell? ⟨g5, i, none⟩ = some d ∧ w.cell? ⟨g6, j, none⟩ = some e) (hb : Below w.heap.size w w') :
    w'.cell? ⟨N2, 0, none⟩ = some a ∧ w'.cell? ⟨N2, 1, none⟩ = some b ∧ w'.cell? ⟨N2, 2, none⟩ = some c ∧ w'.cell? ⟨g5, i, none⟩ = some d ∧ w'.cell? ⟨g6, j, none⟩ = some e := by
  obtain ⟨h1, h2, h3, h4, h5⟩ := h
  exact ⟨(hb.cell (World.block_lt_of_cell? w _ h1)).trans h1, (hb.cell (World.block_lt_of_cell? w _ h2)).trans h2, (hb.cell (World.block_lt_of_cell? w _ h3)).trans h3, (hb.cell (World.block_lt_of_cell? w _ h4)).trans h4, (hb.cell (World.block_lt_of_cell? w _ h5)).trans h5⟩
theorem keep6v {w w' : World} {N2 g5 g6 i : Nat} {a b c d e f : Value} (h : w.cell? ⟨N2, 0, none⟩ = some a ∧ w.cell? ⟨N2, 1, none⟩ = some b ∧ w.cell? ⟨N2, 2, none⟩ = some c ∧ w.cell? ⟨g5, i, none⟩ = some d ∧ w.cell? ⟨g6, 0, none⟩ = some e ∧ w.cell? ⟨g6, 1, none⟩ = some f) (hb : Below w.heap.size w w') :
    w'.cell? ⟨N2, 0, none⟩ = some a ∧ w'.cell? ⟨N2, 1, none⟩ = some b ∧ w'.cell? ⟨N2, 2, none⟩ = some c ∧ w'.cell? ⟨g5, i, none⟩ = some d ∧ w'.cell? ⟨g6, 0, none⟩ = some e ∧ w'.cell? ⟨g6, 1, none⟩ = some f := by
  obtain ⟨h1, h2, h3, h4, h5, h6⟩ := h
  exact ⟨(hb.cell (World.block_lt_of_cell? w _ h1)).trans h1, (hb.cell (World.block_lt_of_cell? w _ h2)).trans h2, (hb.cell (World.block_lt_of_cell? w _ h3)).trans h3, (hb.cell (World.block_lt_of_cell? w _ h4)).trans h4, (hb.cell (World.block_lt_of_cell? w _ h5)).trans h5, (hb.cell (World.block_lt_of_cell? w _ h6)).trans h6⟩
theorem dmod {dd : Nat} (h : dd < 256) : (dd % 4 = 3 → IntKind.u8.wrap (Int.tmod (dd : Int) 4) = 3) ∧ (dd % 4 ≠ 3 → ¬ IntKind.u8.wrap (Int.tmod (dd : Int) 4) = 3) := by
  have e : IntKind.u8.wrap (Int.tmod (dd : Int) 4) = ((dd % 4 : Nat) : Int) := by
    have e1 : Int.tmod (dd : Int) 4 = ((dd % 4 : Nat) : Int) := by rw [Int.tmod_eq_emod_of_nonneg (by omega)]; omega
    rw [e1]
    unfold IntKind.wrap
    simp [IntKind.bits, IntKind.signed]
    omega
  rw [e]
  exact ⟨fun h => by omega, fun h => by omega⟩
/-- what is known of the versions' pairs -/
def VerP (n : Nat) (vs : List Ver) : Prop := ∀ e ∈ vs, RisesL e.ps ∧ e.ps.length ≤ n ∧ ∀ x ∈ e.ps, x.1.size ≤ 40
theorem keepS {w w' : World} {g6 K N10 : Nat} {a b c : Value} (h : w.cell? ⟨g6, K, none⟩ = some a ∧ w.cell? ⟨N10, 0, none⟩ = some b ∧ w.cell? ⟨N10, 1, none⟩ = some c) (hb : Below w.heap.size w w') :
    w'.cell? ⟨g6, K, none⟩ = some a ∧ w'.cell? ⟨N10, 0, none⟩ = some b ∧ w'.cell? ⟨N10, 1, none⟩ = some c :=
  ⟨(hb.cell (World.block_lt_of_cell? w _ h.1)).trans h.1, (hb.cell (World.block_lt_of_cell? w _ h.2.1)).trans h.2.1, (hb.cell (World.block_lt_of_cell? w _ h.2.2)).trans h.2.2⟩
noncomputable def vers16 : Code := (Tryz.f4.body.bind (fromRegion 16)).getD .skip
set_option maxHeartbeats 8000000 in
theorem vers16_any (post : Ending → World → Prop) (k0 k1 m : Int) (w0 w : World) (h0 : U64 k0) (h1 : U64 k1) (N2 : Nat) (v5 v6 : Value) (vs : List Ver)
    (hB0 : Below w0.heap.size w0 w) (hV : VersR k0 k1 m w0.heap.size w v5 v6 vs) (hH : Blk w N2 26 #[.int .u64 k0, .int .u64 k1, .int .u64 m]) (hP : VerP 30 vs) (hl : vs.length ≤ 31) (hpost : ∀ w', Below w0.heap.size w0 w' → post (.returned (.bool true)) w') (x0 x1 x3 x4 x7 x8 x9 x10 x11 x12 x13 x14 x15 x16 x17 x18 x19 x20 x21 x22 x23 x24 x25 x26 x27 x28 x29 x30 x31 x32 x33 x34 x35 x36 x37 x38 x39 x40 x41 x42 x43 x44 x45 x46 x47 x48 x49 x50 x51 x52 x53 x54 x55 x56 x57 x58 x59 x60 x61 x62 x63 x64 x65 x66 x67 x68 x69 x70 x71 x72 x73 x74 x75 x76 x77 x78 x79 x80 x81 x82 x83 x84 x85 x86 x87 x88 x89 x90 x91 x92 x93 x94 x95 x96 x97 x98 x99 x100 x101 x102 x103 x104 x105 x106 x107 x108 : Value) :
    Code.wp Tryz.prog vers16 (bodyPost Tryz.prog Tryz.f4 post) ⟨#[x0, x1, .pointer (some ⟨N2, 0, none⟩), x3, x4, v5, v6, x7, x8, x9, x10, x11, x12, x13, x14, x15, x16, x17, x18, x19, x20, x21, x22, x23, x24, x25, x26, x27, x28, x29, x30, x31, x32, x33, x34, x35, x36, x37, x38, x39, x40, x41, x42, x43, x44, x45, x46, x47, x48, x49, x50, x51, x52, x53, x54, x55, x56, x57, x58, x59, x60, x61, x62, x63, x64, x65, x66, x67, x68, x69, x70, x71, x72, x73, x74, x75, x76, x77, x78, x79, x80, x81, x82, x83, x84, x85, x86, x87, x88, x89, x90, x91, x92, x93, x94, x95, x96, x97, x98, x99, x100, x101, x102, x103, x104, x105, x106, x107, x108], []⟩ w := by
  obtain ⟨A5, c5, rfl⟩ := own_formN hV.r5
  obtain ⟨A6, c6, rfl⟩ := own_formN hV.r6
  obtain ⟨NV, hNV⟩ : ∃ NV, NV = vs.length := ⟨_, rfl⟩
  have e5 : (vs.map (·.b)).length = NV := by rw [List.length_map, hNV]
  have e6 : (vs.map (·.v)).length = NV := by rw [List.length_map, hNV]
  rw [e5] at hV ⊢
  rw [e6] at hV ⊢
  rw [← hNV] at hl
  have HPo := Lib.hid hpost
  have HPs := Lib.hid hP
  have HNV := Lib.hid hNV
  have HE5 := Lib.hid e5
  have HE6 := Lib.hid e6
  clear hpost hP hNV e5 e6
  simp only []
  conv => arg 2; whnf
  go_wp2_with fail
  go_loopw [94] (fun vi wr => ∃ j : Nat, j ≤ NV ∧ vi = .int .i64 j ∧ VersR k0 k1 m w0.heap.size wr (.slice A5 NV c5) (.slice A6 NV c6) vs ∧ Blk wr N2 26 #[.int .u64 k0, .int .u64 k1, .int .u64 m] ∧ Below w0.heap.size w0 wr) (fun vi wr => NV - (intOf vi).toNat)
  case atStart => exact ⟨0, by omega, rfl, hV, hH, hB0⟩
  case round =>
    clear hV hH hB0
    obtain ⟨j, hj, rfl, hV, hH, hB⟩ := hrel
    by_cases hlt : j < NV
    · have hjv : j < vs.length := by rw [← HNV.out]; exact hlt
      obtain ⟨g5, c5', e5, z5⟩ := row_at hV.r5 j (by rw [HE5.out]; exact hlt) (at0 vs[j].b) (by simp [kcs, hjv])
      obtain ⟨g6, c6', e6, z6⟩ := row_at hV.r6 j (by rw [HE6.out]; exact hlt) vs[j].v (by simp [hjv])
      simp only [Value.slice.injEq] at e5 e6
      obtain ⟨rfl, -, rfl⟩ := e5
      obtain ⟨rfl, -, rfl⟩ := e6
      have hTk := hV.eT (vs[j].b, vs[j].ps) (List.mem_map.2 ⟨vs[j], List.getElem_mem _, rfl⟩)
      have hLk := hV.eL (vs[j].v, vs[j].ps) (List.mem_map.2 ⟨vs[j], List.getElem_mem _, rfl⟩)
      obtain ⟨hrk, hlk, hzk⟩ := HPs.out vs[j] (List.getElem_mem _)
      generalize vs[j].b = bk at *
      generalize vs[j].v = vk at *
      generalize vs[j].ps = pk at *
      obtain ⟨Ak, ck, evk, hRk⟩ := OwnR.rd hLk
      simp only at evk hTk hLk
      subst evk
      have kt := fun w' (hw : Below wr.heap.size wr w') => trie_X (A := Ak) (c := ck) (hTk.below hw) h0 h1 (hRk.below hw) (by omega) (fun x hx => Nat.le_trans (hzk x hx) (by omega))
      have L1 : (j : Int) < (NV : Int) := by omega
      have L2 : IntKind.i64.wrap ((j : Int) + 1) = ((j + 1 : Nat) : Int) := by rw [IntWalk.i64_in _ (by omega)]; omega
      unfold at0 at z5
      clear hTk hLk hRk
      go_upto_region 19 with (fail)
      have hS0 : (fun w' : World => w'.cell? ⟨N2, 0, none⟩ = some (.int .u64 k0) ∧ w'.cell? ⟨N2, 1, none⟩ = some (.int .u64 k1) ∧ w'.cell? ⟨N2, 2, none⟩ = some (.int .u64 m) ∧ w'.cell? ⟨g5, j, none⟩ = some (.pointer (some ⟨bk, 0, none⟩)) ∧ w'.cell? ⟨g6, j, none⟩ = some (.slice Ak pk.length ck)) wr.drew := ⟨hH.cell 0, hH.cell 1, hH.cell 2, z5, z6⟩
      have hdr : Below wr.heap.size wr wr.drew := (Below.refl _ wr).drew
      have hV := hV.below hdr
      have hH := hH.below hdr
      have hB := hB.drew
      clear z5 z6
      refine wp_region_held_drew (S := fun w' : World => w'.cell? ⟨N2, 0, none⟩ = some (.int .u64 k0) ∧ w'.cell? ⟨N2, 1, none⟩ = some (.int .u64 k1) ∧ w'.cell? ⟨N2, 2, none⟩ = some (.int .u64 m) ∧ w'.cell? ⟨g5, j, none⟩ = some (.pointer (some ⟨bk, 0, none⟩)) ∧ w'.cell? ⟨g6, j, none⟩ = some (.slice Ak pk.length ck)) (by kernel_rfl) hS0 ?_
      intro hS
      refine wpAnyH_take (i := 0) (oi := { dst := some 97, op := Go.Op.load 26 (Go.Operand.tmp 2), type := 26, pos := "law.go:144", after := #[], guard := none }) (v := .agg #[.int .u64 k0, .int .u64 k1, .int .u64 m]) rfl (by kernel_rfl) (by kernel_rfl) (by kernel_rfl) (fun _ _ _ h => h) (Or.inl ⟨by rfl, fun w hSw => ?_⟩) hS ?_
      · go_split_ands
        go_simp
      try simp only [Act.put, List.setIfInBounds_toArray, List.set_cons_zero, List.set_cons_succ]
      refine wpAnyH_take (i := 1) (oi := { dst := some 98, op := Go.Op.move (Go.Operand.tmp 5), type := 49, pos := "law.go:144", after := #[], guard := none }) (v := .slice (some ⟨g5, 0, none⟩) NV c5) rfl (by kernel_rfl) (by kernel_rfl) (by kernel_rfl) (fun _ _ _ h => h) (Or.inl ⟨by rfl, fun w hSw => ?_⟩) hS ?_
      · go_split_ands
        go_simp
      try simp only [Act.put, List.setIfInBounds_toArray, List.set_cons_zero, List.set_cons_succ]
      refine wpAnyH_take (i := 2) (oi := { dst := some 99, op := Go.Op.move (Go.Operand.tmp 15), type := 3, pos := "law.go:144", after := #[], guard := none }) (v := .int .i64 j) rfl (by kernel_rfl) (by kernel_rfl) (by kernel_rfl) (fun _ _ _ h => h) (Or.inl ⟨by rfl, fun w hSw => ?_⟩) hS ?_
      · go_split_ands
        go_simp
      try simp only [Act.put, List.setIfInBounds_toArray, List.set_cons_zero, List.set_cons_succ]
      refine wpAnyH_take (i := 3) (oi := { dst := some 100, op := Go.Op.indexAddr 49 (Go.Operand.tmp 98) (Go.Operand.tmp 99), type := 0, pos := "law.go:144", after := #[{ on := 1, ground := Go.Ground.data }, { on := 2, ground := Go.Ground.data }], guard := none }) (v := .pointer (some ⟨g5, j, none⟩)) rfl (by kernel_rfl) (by kernel_rfl) (by kernel_rfl) (fun _ _ _ h => h) (Or.inl ⟨by rfl, fun w hSw => ?_⟩) hS ?_
      · go_split_ands
        go_simp
      try simp only [Act.put, List.setIfInBounds_toArray, List.set_cons_zero, List.set_cons_succ]
      refine wpAnyH_take (i := 4) (oi := { dst := some 101, op := Go.Op.load 30 (Go.Operand.tmp 100), type := 30, pos := "law.go:144", after := #[{ on := 3, ground := Go.Ground.data }], guard := none }) (v := .pointer (some ⟨bk, 0, none⟩)) rfl (by kernel_rfl) (by kernel_rfl) (by kernel_rfl) (fun _ _ _ h => h) (Or.inl ⟨by rfl, fun w hSw => ?_⟩) hS ?_
      · go_split_ands
        go_simp
      try simp only [Act.put, List.setIfInBounds_toArray, List.set_cons_zero, List.set_cons_succ]
      refine wpAnyH_take (i := 5) (oi := { dst := some 102, op := Go.Op.move (Go.Operand.tmp 6), type := 50, pos := "law.go:144", after := #[], guard := none }) (v := .slice (some ⟨g6, 0, none⟩) NV c6) rfl (by kernel_rfl) (by kernel_rfl) (by kernel_rfl) (fun _ _ _ h => h) (Or.inl ⟨by rfl, fun w hSw => ?_⟩) hS ?_
      · go_split_ands
        go_simp
      try simp only [Act.put, List.setIfInBounds_toArray, List.set_cons_zero, List.set_cons_succ]
      refine wpAnyH_take (i := 6) (oi := { dst := some 103, op := Go.Op.move (Go.Operand.tmp 15), type := 3, pos := "law.go:144", after := #[], guard := none }) (v := .int .i64 j) rfl (by kernel_rfl) (by kernel_rfl) (by kernel_rfl) (fun _ _ _ h => h) (Or.inl ⟨by rfl, fun w hSw => ?_⟩) hS ?_
      · go_split_ands
        go_simp
      try simp only [Act.put, List.setIfInBounds_toArray, List.set_cons_zero, List.set_cons_succ]
      refine wpAnyH_take (i := 7) (oi := { dst := some 104, op := Go.Op.indexAddr 50 (Go.Operand.tmp 102) (Go.Operand.tmp 103), type := 0, pos := "law.go:144", after := #[{ on := 5, ground := Go.Ground.data }, { on := 6, ground := Go.Ground.data }], guard := none }) (v := .pointer (some ⟨g6, j, none⟩)) rfl (by kernel_rfl) (by kernel_rfl) (by kernel_rfl) (fun _ _ _ h => h) (Or.inl ⟨by rfl, fun w hSw => ?_⟩) hS ?_
      · go_split_ands
        go_simp
      try simp only [Act.put, List.setIfInBounds_toArray, List.set_cons_zero, List.set_cons_succ]
      refine wpAnyH_take (i := 8) (oi := { dst := some 105, op := Go.Op.load 32 (Go.Operand.tmp 104), type := 32, pos := "law.go:144", after := #[{ on := 7, ground := Go.Ground.data }], guard := none }) (v := .slice Ak pk.length ck) rfl (by kernel_rfl) (by kernel_rfl) (by kernel_rfl) (fun _ _ _ h => h) (Or.inl ⟨by rfl, fun w hSw => ?_⟩) hS ?_
      · go_split_ands
        go_simp
      try simp only [Act.put, List.setIfInBounds_toArray, List.set_cons_zero, List.set_cons_succ]
      refine wpAnyH_ready (rs := [9]) (by kernel_rfl) (by simp) ?_
      refine AllReadyH.cons (o := { dst := some 106, op := Go.Op.call { callee := Go.Callee.value (Go.Operand.func 18), args := #[Go.Operand.tmp 97, Go.Operand.tmp 101, Go.Operand.tmp 105], argTypes := #[26, 30, 32] }, type := 4, pos := "law.go:144", after := #[{ on := 0, ground := Go.Ground.data }, { on := 4, ground := Go.Ground.data }, { on := 8, ground := Go.Ground.data }], guard := none }) rfl (fun K hK => ?_) AllReadyH.nil
      go_simp
      refine (kt _ hdr).mono ?_
      rintro e wA ⟨rfl, hBA⟩
      go_wp2_with fail
      have hSn := keep5v hS hBA
      refine hK.out _ _ hSn (fun _ => ?_)
      clear hK K hS
      try simp only [Act.put, List.setIfInBounds_toArray, List.set_cons_zero, List.set_cons_succ]
      have hS := hSn
      clear hSn
      have hB := hB.trans (hBA.mono hB.size)
      have hV := hV.below hBA
      have hH := hH.below hBA
      clear hBA
      refine wpAnyH_take (i := 10) (oi := { dst := some 107, op := Go.Op.unOp Go.UnOp.not 4 (Go.Operand.tmp 106), type := 4, pos := "law.go:144", after := #[{ on := 9, ground := Go.Ground.data }], guard := none }) (v := .bool false) rfl (by kernel_rfl) (by kernel_rfl) (by kernel_rfl) (fun _ _ _ h => h) (Or.inl ⟨by rfl, fun w hSw => ?_⟩) hS ?_
      · go_split_ands
        go_simp
      try simp only [Act.put, List.setIfInBounds_toArray, List.set_cons_zero, List.set_cons_succ]
      refine wpAnyH_done (by kernel_rfl) ?_ _

      clear hS kt hdr
      go_wp2_with fail
      exact ⟨⟨j + 1, by omega, by go_num, hV, hH, hB⟩, by simp [intOf]; omega⟩
    · obtain rfl : j = NV := by omega
      have G : ¬ ((j : Int) < (j : Int)) := by omega
      go_wp2_with fail
      exact HPo.out _ hB
set_option maxHeartbeats 32000000 in
theorem walk (k0 k1 m : Int) (a1 : Option Addr) (len1 cap1 : Nat) (w : World) (h0 : U64 k0) (h1 : U64 k1) (hA : ArgA w a1 len1 cap1) :
    Calls Tryz.prog 4 #[.agg #[.int .u64 k0, .int .u64 k1, .int .u64 m], .slice a1 len1 cap1] w fun e w' => e = .returned (.bool true) ∧ Below w.heap.size w w' := by
  obtain ⟨i30, hi30, hy300, hy301, hy302⟩ := info_parts info30
  obtain ⟨i32, hi32, hy320, hy321, hy322⟩ := info_parts info32
  have hB0 := (Below.refl _ w).alloc (Nat.le_refl _) (.cells #[.int .u64 k0, .int .u64 k1, .int .u64 m] 26)
  have b1 := Blk.new w 26 #[.int .u64 k0, .int .u64 k1, .int .u64 m]
  have hl1 := hA.len_le
  have HA := Lib.hid hA
  clear hA
  go_enter Tryz.func4, Tryz.ntmps4
  go_upto_region 1 with (fail)
  generalize w.alloc (.cells #[.int .u64 k0, .int .u64 k1, .int .u64 m] 26) = W at *
  obtain ⟨N2, hN2⟩ : ∃ N2, N2 = w.heap.size := ⟨_, rfl⟩
  rw [← hN2] at b1 ⊢
  clear hN2
  go_wp2_with fail
  refine (awake_any _).mono ?_
  rintro e w1 ⟨rfl, hB1⟩
  have hH := b1.below hB1
  have hB := hB0.trans (hB1.mono hB0.size)
  clear b1 hB1 hB0
  go_wp2_with fail
  refine (empty_plain (base := w.heap.size) k0 k1 m hB.size).mono ?_
  rintro e w2 ⟨b, rfl, hT, hB2⟩
  have hH := hH.below hB2
  have hB := hB.trans (hB2.mono hB.size)
  clear hB2
  go_upto_region 4 with (fail)
  have hBl1 := (Below.refl _ w2).alloc (Nat.le_refl _) (.cells #[.pointer (some ⟨b, 0, none⟩)] 30)
  have hBl2 := (Below.refl _ (w2.alloc (.cells #[.pointer (some ⟨b, 0, none⟩)] 30))).alloc (Nat.le_refl _) (.cells #[.slice none 0 0] 32)
  have hBl := hBl1.trans (hBl2.mono hBl1.size)
  have hn5 := (Blk.new w2 30 #[.pointer (some ⟨b, 0, none⟩)]).below hBl2
  have hn6 := Blk.new (w2.alloc (.cells #[.pointer (some ⟨b, 0, none⟩)] 30)) 32 #[.slice none 0 0]
  have es : (w2.alloc (.cells #[.pointer (some ⟨b, 0, none⟩)] 30)).heap.size = w2.heap.size + 1 := by simp
  rw [es] at hn6
  have hT5 : TX (atBlk (.slice (some ⟨w2.heap.size, 0, none⟩) 1 1)) k0 k1 m w.heap.size w2 b [] := hT.tx fun x hx => .inl (by unfold atBlk at hx; simp [Value.ownBlock] at hx; omega)
  have hV : VersR k0 k1 m w.heap.size ((w2.alloc (.cells #[.pointer (some ⟨b, 0, none⟩)] 30)).alloc (.cells #[.slice none 0 0] 32)) (.slice (some ⟨w2.heap.size, 0, none⟩) 1 1) (.slice (some ⟨w2.heap.size + 1, 0, none⟩) 1 1) [⟨b, .slice none 0 0, []⟩] :=
    ⟨⟨rfl, .inr ⟨_, 1, _, rfl, hB.size, hn5, Nat.le_refl _, by unfold maxLen; omega, rfl, rfl⟩⟩, ⟨rfl, .inr ⟨_, 1, _, rfl, Nat.le_succ_of_le hB.size, hn6, Nat.le_refl _, by unfold maxLen; omega, rfl, rfl⟩⟩,
     fun e he => by simp at he; subst he; exact hT5.below hBl, fun e he => by simp at he; subst he; exact OwnR.nil _ _, Nat.le_trans hB.size hBl.size⟩
  have hH := hH.below hBl
  have hB := hB.trans (hBl.mono hB.size)
  clear hT hBl1 hBl2 hBl hn5 hn6 es hT5
  generalize (w2.alloc (.cells #[.pointer (some ⟨b, 0, none⟩)] 30)).alloc (.cells #[.slice none 0 0] 32) = W3 at *
  obtain ⟨N6, hN6⟩ : ∃ N6, N6 = w2.heap.size + 1 := ⟨_, rfl⟩
  rw [← hN6] at hV ⊢
  clear hN6
  generalize w2.heap.size = N5 at *
  go_wp2_with fail
  go_loopw [5, 6, 23] (fun v5 v6 vi wr => ∃ (j : Nat) (vs : List Ver), j ≤ len1 ∧ j ≤ 30 ∧ vs.length = j + 1 ∧ vi = .int .i64 j ∧ VersR k0 k1 m w.heap.size wr v5 v6 vs ∧ VerP j vs ∧ Blk wr N2 26 #[.int .u64 k0, .int .u64 k1, .int .u64 m] ∧ Below w.heap.size w wr) (fun v5 v6 vi wr => len1 - (intOf vi).toNat)
  case atStart => exact ⟨0, _, by omega, by omega, rfl, rfl, hV, fun e he => by simp at he; subst he; exact ⟨rises_nil, by simp, by simp⟩, hH, hB⟩
  case round =>
    clear hV hH hB
    obtain ⟨j, vs, hj, hj30, hvl', rfl, hV, hPs, hH, hB⟩ := hrel
    have hvl := Lib.hid hvl'
    have HPs := Lib.hid hPs
    by_cases hlt : j < len1
    · obtain ⟨x, dd, ka, q, ow, rfl, hdd, hka, c0, c1, c2, c3, c4⟩ := HA.out.at hB j hlt
      have L1 : (j : Int) < (len1 : Int) := by omega
      have L2 : IntKind.i64.wrap ((j : Int) + 1) = ((j + 1 : Nat) : Int) := by rw [IntWalk.i64_in _ (by unfold maxLen at hl1; omega)]; omega
      go_upto_region 7 with (fail)
      have hBl := (Below.refl _ wr).alloc (Nat.le_refl _) (.cells #[.int .u8 dd, .string q.1, .string q.2, .int .u8 ka, .bool ow] 36)
      have hAct := Blk.new wr 36 #[.int .u8 dd, .string q.1, .string q.2, .int .u8 ka, .bool ow]
      have hB := hB.trans (hBl.mono hB.size)
      have hV := hV.below hBl
      have hH := hH.below hBl
      clear c0 c1 c2 c3 c4 hBl
      generalize wr.alloc (.cells #[.int .u8 dd, .string q.1, .string q.2, .int .u8 ka, .bool ow] 36) = W1 at *
      generalize wr.heap.size = N8 at *
      by_cases h30 : j < 30
      · have G : ¬ ((30 : Int) ≤ (j : Int)) := by omega
        obtain ⟨NV, hNV⟩ : ∃ NV, NV = j + 1 := ⟨_, rfl⟩
        obtain ⟨K, hKe⟩ : ∃ K, K = ka % NV := ⟨_, rfl⟩
        have hKlt : K < NV := by rw [hKe]; exact Nat.mod_lt _ (by omega)
        have hNV31 : NV ≤ 31 := by omega
        have M1 : (ka : Int) % (NV : Int) = (K : Int) := by rw [hKe]; omega
        have M2 : ¬ ((NV : Int) = 0) := by omega
        have M3 : IntKind.i64.wrap (ka : Int) = (ka : Int) := by rw [IntWalk.i64_in _ (by omega)]
        have M4 : IntKind.i64.wrap (K : Int) = (K : Int) := by rw [IntWalk.i64_in _ (by omega)]
        have M5 : (K : Int) < (NV : Int) := by omega
        have hKv : K < vs.length := by omega
        have e5 : (vs.map (·.b)).length = NV := by rw [List.length_map]; omega
        have e6 : (vs.map (·.v)).length = NV := by rw [List.length_map]; omega
        obtain ⟨g5, c5, ev5, z5⟩ := row_at hV.r5 K (by rw [e5]; exact hKlt) (at0 vs[K].b) (by simp [kcs, hKv])
        obtain ⟨g6, c6, ev6, z60⟩ := row_at hV.r6 K (by rw [e6]; exact hKlt) vs[K].v (by simp [hKv])
        rw [e5] at ev5
        rw [e6] at ev6
        subst ev5 ev6
        have hTk := hV.eT (vs[K].b, vs[K].ps) (List.mem_map.2 ⟨vs[K], List.getElem_mem _, rfl⟩)
        have hLk := hV.eL (vs[K].v, vs[K].ps) (List.mem_map.2 ⟨vs[K], List.getElem_mem _, rfl⟩)
        obtain ⟨hrk, hlk, hzk⟩ := hPs vs[K] (List.getElem_mem _)
        have hlsK : (vs.map (·.v))[K]? = some vs[K].v := by simp [hKv]
        have husK : (vs[K].v, vs[K].ps) ∈ vs.map fun e => (e.v, e.ps) := List.mem_map.2 ⟨vs[K], List.getElem_mem _, rfl⟩
        obtain ⟨Ak, ck, evk, -⟩ := OwnR.rd hLk
        simp only at evk
        rw [evk] at hlsK husK
        generalize vs[K].b = bk at *
        generalize vs[K].ps = pk at *
        obtain ⟨bs, hbs⟩ : ∃ bs, bs = vs.map (·.b) := ⟨_, rfl⟩
        obtain ⟨ls, hls⟩ : ∃ ls, ls = vs.map (·.v) := ⟨_, rfl⟩
        obtain ⟨ts, hts⟩ : ∃ ts, ts = vs.map fun e => (e.b, e.ps) := ⟨_, rfl⟩
        obtain ⟨us, hus⟩ : ∃ us, us = vs.map fun e => (e.v, e.ps) := ⟨_, rfl⟩
        have HSN := Lib.hid (fun (v : Value) (b : Nat) (ps : List Pr) (W : World) (gn5 cn5 gn6 cn6 : Nat) (h : VR k0 k1 m w.heap.size W (.slice (some ⟨gn5, 0, none⟩) (NV + 1) cn5) (.slice (some ⟨gn6, 0, none⟩) (NV + 1) cn6) (bs ++ [b]) (ls ++ [v]) (ts ++ [(b, ps)]) (us ++ [(v, ps)])) => VersR.snoc (e := ⟨b, v, ps⟩) (vs := vs) (by rw [← hbs, ← hls, ← hts, ← hus]; exact h))
        have hV : VR k0 k1 m w.heap.size W1 (.slice (some ⟨g5, 0, none⟩) NV c5) (.slice (some ⟨g6, 0, none⟩) NV c6) bs ls ts us := by rw [hbs, hls, hts, hus]; exact hV
        rw [← hbs] at e5
        rw [← hls] at e6 hlsK
        rw [← hus] at husK
        have HBL := Lib.hid e5
        have HLL := Lib.hid e6
        have HLK := Lib.hid hlsK
        have HUK := Lib.hid husK
        have hTk0 := Lib.hid hTk
        have hXl := hV.xlt
        unfold at0 at z5
        clear hNV hKe hbs hls hts hus e5 e6 hlsK husK hTk hLk evk z60 hPs hvl' hKv
        have d0 : W1.cell? ⟨N8, 0, none⟩ = some (.int .u8 dd) := hAct.cell 0
        have d1 : W1.cell? ⟨N8, 1, none⟩ = some (.string q.1) := hAct.cell 1
        have d2 : W1.cell? ⟨N8, 2, none⟩ = some (.string q.2) := hAct.cell 2
        have d3 : W1.cell? ⟨N8, 3, none⟩ = some (.int .u8 ka) := hAct.cell 3
        have kfew := few_any q W1
        have hp1 : (few40 q).1.size ≤ 40 := cut40_size q.1
        generalize few40 q = p at *
        have hp1000 : p.1.size ≤ 1000 := by omega
        go_wp2_with fail
        refine kfew.mono ?_
        rintro e w3 ⟨rfl, hB3⟩
        clear kfew d1 d2 d3
        go_upto_region 10 with (fail)
        have hBl := hB3.alloc hB3.size (.cells #[.string p.1, .string p.2] 34)
        have hP10 := Blk.new w3 34 #[.string p.1, .string p.2]
        have hB := hB.trans (hBl.mono hB.size)
        have hV := hV.below hBl
        have hH := hH.below hBl
        have hAct := hAct.below hBl
        have hTk := hTk0.out.below hBl
        have z5 := (hBl.cell (p := ⟨g5, K, none⟩) (World.block_lt_of_cell? _ _ z5)).trans z5
        clear hBl hB3 d0 hTk0
        generalize w3.alloc (.cells #[.string p.1, .string p.2] 34) = W4 at *
        generalize w3.heap.size = N10 at *
        have d0 : W4.cell? ⟨N8, 0, none⟩ = some (.int .u8 dd) := hAct.cell 0
        have kd := fun w' (hw : Below W4.heap.size W4 w') => drop_X (w := w') p.1 h0 h1 hp1000 (Nat.le_trans hB.size hw.size) (fun x hx => Nat.lt_of_lt_of_le (hV.xlt x hx) hw.size) (hTk.below hw) hrk (by omega)
        have kp := fun w' (hw : Below W4.heap.size W4 w') => put_X (w := w') p h0 h1 hp1000 (Nat.le_trans hB.size hw.size) (fun x hx => Nat.lt_of_lt_of_le (hV.xlt x hx) hw.size) (hTk.below hw) hrk (by omega) (fun x hx => Nat.le_trans (hzk x hx) (by omega))
        have hRk : ∀ (W' : World) {v5 v6 : Value} {bs' : List Nat} {ls' : List Value} {ts' : List (Nat × List Pr)}, VR k0 k1 m w.heap.size W' v5 v6 bs' ls' ts' us → Rd W' Ak pk := fun W' _ _ _ _ _ h => by
          obtain ⟨A', c', e', hr'⟩ := OwnR.rd (h.eL _ HUK.out)
          simp only [Value.slice.injEq] at e'
          obtain ⟨rfl, -⟩ := e'
          exact hr'
        clear hAct hTk hXl
        by_cases h3 : dd % 4 = 3
        · have D3 := (dmod hdd).1 h3
          go_upto_region 11 with (fail)
          have hS0 : (fun w' : World => w'.cell? ⟨N2, 0, none⟩ = some (.int .u64 k0) ∧ w'.cell? ⟨N2, 1, none⟩ = some (.int .u64 k1) ∧ w'.cell? ⟨N2, 2, none⟩ = some (.int .u64 m) ∧ w'.cell? ⟨g5, K, none⟩ = some (.pointer (some ⟨bk, 0, none⟩)) ∧ w'.cell? ⟨N10, 0, none⟩ = some (.string p.1) ∧ w'.cell? ⟨N10, 1, none⟩ = some (.string p.2)) W4.drew := ⟨hH.cell 0, hH.cell 1, hH.cell 2, z5, hP10.cell 0, hP10.cell 1⟩
          have hdr : Below W4.heap.size W4 W4.drew := (Below.refl _ W4).drew
          have hV := hV.below hdr
          have hH := hH.below hdr
          have hP10 := hP10.below hdr
          have hB := hB.drew
          clear z5
          refine wp_region_held_drew (S := fun w' : World => w'.cell? ⟨N2, 0, none⟩ = some (.int .u64 k0) ∧ w'.cell? ⟨N2, 1, none⟩ = some (.int .u64 k1) ∧ w'.cell? ⟨N2, 2, none⟩ = some (.int .u64 m) ∧ w'.cell? ⟨g5, K, none⟩ = some (.pointer (some ⟨bk, 0, none⟩)) ∧ w'.cell? ⟨N10, 0, none⟩ = some (.string p.1) ∧ w'.cell? ⟨N10, 1, none⟩ = some (.string p.2)) (by kernel_rfl) hS0 ?_
          intro hS
          refine wpAnyH_take (i := 0) (oi := { dst := some 44, op := Go.Op.load 26 (Go.Operand.tmp 2), type := 26, pos := "law.go:136", after := #[], guard := none }) (v := .agg #[.int .u64 k0, .int .u64 k1, .int .u64 m]) rfl (by kernel_rfl) (by kernel_rfl) (by kernel_rfl) (fun _ _ _ h => h) (Or.inl ⟨by rfl, fun w hSw => ?_⟩) hS ?_
          · go_split_ands
            go_simp
          try simp only [Act.put, List.setIfInBounds_toArray, List.set_cons_zero, List.set_cons_succ]
          refine wpAnyH_take (i := 1) (oi := { dst := some 45, op := Go.Op.move (Go.Operand.tmp 5), type := 49, pos := "law.go:136", after := #[], guard := none }) (v := .slice (some ⟨g5, 0, none⟩) NV c5) rfl (by kernel_rfl) (by kernel_rfl) (by kernel_rfl) (fun _ _ _ h => h) (Or.inl ⟨by rfl, fun w hSw => ?_⟩) hS ?_
          · go_split_ands
            go_simp
          try simp only [Act.put, List.setIfInBounds_toArray, List.set_cons_zero, List.set_cons_succ]
          refine wpAnyH_take (i := 2) (oi := { dst := some 46, op := Go.Op.move (Go.Operand.tmp 9), type := 3, pos := "law.go:136", after := #[], guard := none }) (v := .int .i64 K) rfl (by kernel_rfl) (by kernel_rfl) (by kernel_rfl) (fun _ _ _ h => h) (Or.inl ⟨by rfl, fun w hSw => ?_⟩) hS ?_
          · go_split_ands
            go_simp
          try simp only [Act.put, List.setIfInBounds_toArray, List.set_cons_zero, List.set_cons_succ]
          refine wpAnyH_take (i := 3) (oi := { dst := some 47, op := Go.Op.indexAddr 49 (Go.Operand.tmp 45) (Go.Operand.tmp 46), type := 0, pos := "law.go:136", after := #[{ on := 1, ground := Go.Ground.data }, { on := 2, ground := Go.Ground.data }], guard := none }) (v := .pointer (some ⟨g5, K, none⟩)) rfl (by kernel_rfl) (by kernel_rfl) (by kernel_rfl) (fun _ _ _ h => h) (Or.inl ⟨by rfl, fun w hSw => ?_⟩) hS ?_
          · go_split_ands
            go_simp
          try simp only [Act.put, List.setIfInBounds_toArray, List.set_cons_zero, List.set_cons_succ]
          refine wpAnyH_take (i := 4) (oi := { dst := some 48, op := Go.Op.load 30 (Go.Operand.tmp 47), type := 30, pos := "law.go:136", after := #[{ on := 3, ground := Go.Ground.data }], guard := none }) (v := .pointer (some ⟨bk, 0, none⟩)) rfl (by kernel_rfl) (by kernel_rfl) (by kernel_rfl) (fun _ _ _ h => h) (Or.inl ⟨by rfl, fun w hSw => ?_⟩) hS ?_
          · go_split_ands
            go_simp
          try simp only [Act.put, List.setIfInBounds_toArray, List.set_cons_zero, List.set_cons_succ]
          refine wpAnyH_take (i := 5) (oi := { dst := some 49, op := Go.Op.fieldAddr 34 (Go.Operand.tmp 10) 0, type := 0, pos := "law.go:136", after := #[], guard := none }) (v := .pointer (some ⟨N10, 0, none⟩)) rfl (by kernel_rfl) (by kernel_rfl) (by kernel_rfl) (fun _ _ _ h => h) (Or.inl ⟨by rfl, fun w hSw => ?_⟩) hS ?_
          · go_split_ands
            go_simp
          try simp only [Act.put, List.setIfInBounds_toArray, List.set_cons_zero, List.set_cons_succ]
          refine wpAnyH_take (i := 6) (oi := { dst := some 50, op := Go.Op.load 9 (Go.Operand.tmp 49), type := 9, pos := "law.go:136", after := #[{ on := 5, ground := Go.Ground.data }], guard := none }) (v := .string p.1) rfl (by kernel_rfl) (by kernel_rfl) (by kernel_rfl) (fun _ _ _ h => h) (Or.inl ⟨by rfl, fun w hSw => ?_⟩) hS ?_
          · go_split_ands
            go_simp
          try simp only [Act.put, List.setIfInBounds_toArray, List.set_cons_zero, List.set_cons_succ]
          refine wpAnyH_ready (rs := [7]) (by kernel_rfl) (by simp) ?_
          refine AllReadyH.cons (o := { dst := some 51, op := Go.Op.call { callee := Go.Callee.value (Go.Operand.func 13), args := #[Go.Operand.tmp 44, Go.Operand.const (Go.Value.pointer none), Go.Operand.tmp 48, Go.Operand.tmp 50], argTypes := #[26, 56, 30, 9] }, type := 40, pos := "law.go:136", after := #[{ on := 0, ground := Go.Ground.data }, { on := 4, ground := Go.Ground.data }, { on := 6, ground := Go.Ground.data }], guard := none }) rfl (fun K hK => ?_) AllReadyH.nil
          go_simp
          refine (kd _ hdr).mono ?_
          rintro e wA ⟨b1, rfl, hT1, hBA⟩
          go_wp2_with fail
          have hSn := keep6v hS hBA
          refine hK.out _ _ hSn (fun _ => ?_)
          clear hK K hS
          try simp only [Act.put, List.setIfInBounds_toArray, List.set_cons_zero, List.set_cons_succ]
          have hS := hSn
          clear hSn
          have hB := hB.trans (hBA.mono hB.size)
          have hV := hV.below hBA
          have hH := hH.below hBA
          have hP10 := hP10.below hBA
          clear hBA
          refine wpAnyH_take (i := 8) (oi := { dst := some 43, op := Go.Op.move (Go.Operand.tmp 51), type := 40, pos := "law.go:136", after := #[{ on := 7, ground := Go.Ground.data }], guard := none }) (v := .tuple #[.pointer (some ⟨b1, 0, none⟩), .bool (getK pk p.1).isSome]) rfl (by kernel_rfl) (by kernel_rfl) (by kernel_rfl) (fun _ _ _ h => h) (Or.inl ⟨by rfl, fun w hSw => ?_⟩) hS ?_
          · go_split_ands
            go_simp
          try simp only [Act.put, List.setIfInBounds_toArray, List.set_cons_zero, List.set_cons_succ]
          refine wpAnyH_take (i := 9) (oi := { dst := some 52, op := Go.Op.extract (Go.Operand.tmp 43) 0, type := 30, pos := "law.go:136", after := #[{ on := 8, ground := Go.Ground.data }], guard := none }) (v := .pointer (some ⟨b1, 0, none⟩)) rfl (by kernel_rfl) (by kernel_rfl) (by kernel_rfl) (fun _ _ _ h => h) (Or.inl ⟨by rfl, fun w hSw => ?_⟩) hS ?_
          · go_split_ands
            go_simp
          try simp only [Act.put, List.setIfInBounds_toArray, List.set_cons_zero, List.set_cons_succ]
          refine wpAnyH_take (i := 10) (oi := { dst := some 53, op := Go.Op.extract (Go.Operand.tmp 43) 1, type := 4, pos := "law.go:136", after := #[{ on := 8, ground := Go.Ground.data }, { on := 11, ground := Go.Ground.gcOnly Go.Departure.lateStores }], guard := none }) (v := .bool (getK pk p.1).isSome) rfl (by kernel_rfl) (by kernel_rfl) (by kernel_rfl) (fun _ _ _ h => h) (Or.inl ⟨by rfl, fun w hSw => ?_⟩) hS ?_
          · go_split_ands
            go_simp
          try simp only [Act.put, List.setIfInBounds_toArray, List.set_cons_zero, List.set_cons_succ]
          refine wpAnyH_take (i := 11) (oi := { dst := some 11, op := Go.Op.assign (Go.Operand.tmp 52), type := 30, pos := "law.go:136", after := #[{ on := 9, ground := Go.Ground.data }, { on := 7, ground := Go.Ground.chain }, { on := 0, ground := Go.Ground.phase }, { on := 1, ground := Go.Ground.phase }, { on := 2, ground := Go.Ground.phase }, { on := 3, ground := Go.Ground.phase }, { on := 4, ground := Go.Ground.phase }, { on := 5, ground := Go.Ground.phase }, { on := 6, ground := Go.Ground.phase }, { on := 7, ground := Go.Ground.phase }, { on := 8, ground := Go.Ground.phase }, { on := 9, ground := Go.Ground.phase }, { on := 10, ground := Go.Ground.textOnly Go.Departure.lateStores }], guard := none }) (v := .pointer (some ⟨b1, 0, none⟩)) rfl (by kernel_rfl) (by kernel_rfl) (by kernel_rfl) (fun _ _ _ h => h) (Or.inl ⟨by rfl, fun w hSw => ?_⟩) hS ?_
          · go_split_ands
            go_simp
          try simp only [Act.put, List.setIfInBounds_toArray, List.set_cons_zero, List.set_cons_succ]
          refine wpAnyH_take (i := 12) (oi := { dst := some 12, op := Go.Op.assign (Go.Operand.tmp 53), type := 4, pos := "law.go:136", after := #[{ on := 10, ground := Go.Ground.data }, { on := 11, ground := Go.Ground.chain }, { on := 0, ground := Go.Ground.phase }, { on := 1, ground := Go.Ground.phase }, { on := 2, ground := Go.Ground.phase }, { on := 3, ground := Go.Ground.phase }, { on := 4, ground := Go.Ground.phase }, { on := 5, ground := Go.Ground.phase }, { on := 6, ground := Go.Ground.phase }, { on := 7, ground := Go.Ground.phase }, { on := 8, ground := Go.Ground.phase }, { on := 9, ground := Go.Ground.phase }, { on := 10, ground := Go.Ground.phase }, { on := 11, ground := Go.Ground.phase }], guard := none }) (v := .bool (getK pk p.1).isSome) rfl (by kernel_rfl) (by kernel_rfl) (by kernel_rfl) (fun _ _ _ h => h) (Or.inl ⟨by rfl, fun w hSw => ?_⟩) hS ?_
          · go_split_ands
            go_simp
          try simp only [Act.put, List.setIfInBounds_toArray, List.set_cons_zero, List.set_cons_succ]
          refine wpAnyH_done (by kernel_rfl) ?_ _
          clear hS kd kp hdr
          generalize (getK pk p.1).isSome = gb at *
          have hV := hV.addT hT1
          clear hT1
          obtain ⟨gx, cx, ex, z6⟩ := row_at hV.r6 K (by rw [HLL.out]; exact hKlt) (.slice Ak pk.length ck) HLK.out
          simp only [Value.slice.injEq, Option.some.injEq, Addr.mk.injEq, and_true] at ex
          obtain ⟨rfl, -⟩ := ex
          obtain ⟨W, hW⟩ : ∃ W, W = wA := ⟨_, rfl⟩
          subst hW
          go_upto_region 12 with (fail)
          refine wp_region_late (S := fun w' => w'.cell? ⟨g6, K, none⟩ = some (.slice Ak pk.length ck) ∧ w'.cell? ⟨N10, 0, none⟩ = some (.string p.1) ∧ w'.cell? ⟨N10, 1, none⟩ = some (.string p.2)) (st := 13) (by kernel_rfl) ?_
          have hS : (fun w' : World => w'.cell? ⟨g6, K, none⟩ = some (.slice Ak pk.length ck) ∧ w'.cell? ⟨N10, 0, none⟩ = some (.string p.1) ∧ w'.cell? ⟨N10, 1, none⟩ = some (.string p.2)) W.drew := ⟨z6, hP10.cell 0, hP10.cell 1⟩
          have hdr2 : Below W.heap.size W W.drew := (Below.refl _ W).drew
          have hV := hV.below hdr2
          have hH := hH.below hdr2
          have hP10 := hP10.below hdr2
          have hB := hB.drew
          clear hdr2
          generalize W.drew = Wd at *
          refine wpAnyL_take0 (i := 0) (oi := { dst := some 54, op := Go.Op.move (Go.Operand.tmp 5), type := 49, pos := "law.go:137", after := #[], guard := none }) (v := .slice (some ⟨g5, 0, none⟩) NV c5) rfl (by kernel_rfl) (by kernel_rfl) (by kernel_rfl) (by kernel_rfl) (fun _ _ _ h => h) hS (Or.inl ⟨by rfl, fun w hSw => ?_⟩) ?_
          · go_split_ands
            go_simp
          try simp only [Act.put, List.setIfInBounds_toArray, List.set_cons_zero, List.set_cons_succ]
          refine wpAnyL_take0 (i := 1) (oi := { dst := some 55, op := Go.Op.move (Go.Operand.tmp 11), type := 30, pos := "law.go:137", after := #[], guard := none }) (v := .pointer (some ⟨b1, 0, none⟩)) rfl (by kernel_rfl) (by kernel_rfl) (by kernel_rfl) (by kernel_rfl) (fun _ _ _ h => h) hS (Or.inl ⟨by rfl, fun w hSw => ?_⟩) ?_
          · go_split_ands
            go_simp
          try simp only [Act.put, List.setIfInBounds_toArray, List.set_cons_zero, List.set_cons_succ]
          refine wpAnyL_take0 (i := 4) (oi := { dst := some 58, op := Go.Op.move (Go.Operand.tmp 6), type := 50, pos := "law.go:137", after := #[], guard := none }) (v := .slice (some ⟨g6, 0, none⟩) NV c6) rfl (by kernel_rfl) (by kernel_rfl) (by kernel_rfl) (by kernel_rfl) (fun _ _ _ h => h) hS (Or.inl ⟨by rfl, fun w hSw => ?_⟩) ?_
          · go_split_ands
            go_simp
          try simp only [Act.put, List.setIfInBounds_toArray, List.set_cons_zero, List.set_cons_succ]
          refine wpAnyL_take0 (i := 5) (oi := { dst := some 59, op := Go.Op.move (Go.Operand.tmp 6), type := 50, pos := "law.go:137", after := #[], guard := none }) (v := .slice (some ⟨g6, 0, none⟩) NV c6) rfl (by kernel_rfl) (by kernel_rfl) (by kernel_rfl) (by kernel_rfl) (fun _ _ _ h => h) hS (Or.inl ⟨by rfl, fun w hSw => ?_⟩) ?_
          · go_split_ands
            go_simp
          try simp only [Act.put, List.setIfInBounds_toArray, List.set_cons_zero, List.set_cons_succ]
          refine wpAnyL_take0 (i := 6) (oi := { dst := some 60, op := Go.Op.move (Go.Operand.tmp 9), type := 3, pos := "law.go:137", after := #[], guard := none }) (v := .int .i64 K) rfl (by kernel_rfl) (by kernel_rfl) (by kernel_rfl) (by kernel_rfl) (fun _ _ _ h => h) hS (Or.inl ⟨by rfl, fun w hSw => ?_⟩) ?_
          · go_split_ands
            go_simp
          try simp only [Act.put, List.setIfInBounds_toArray, List.set_cons_zero, List.set_cons_succ]
          refine wpAnyL_take0 (i := 7) (oi := { dst := some 61, op := Go.Op.indexAddr 50 (Go.Operand.tmp 59) (Go.Operand.tmp 60), type := 0, pos := "law.go:137", after := #[{ on := 5, ground := Go.Ground.data }, { on := 6, ground := Go.Ground.data }], guard := none }) (v := .pointer (some ⟨g6, K, none⟩)) rfl (by kernel_rfl) (by kernel_rfl) (by kernel_rfl) (by kernel_rfl) (fun _ _ _ h => h) hS (Or.inl ⟨by rfl, fun w hSw => ?_⟩) ?_
          · go_split_ands
            go_simp
          try simp only [Act.put, List.setIfInBounds_toArray, List.set_cons_zero, List.set_cons_succ]
          refine wpAnyL_take2 (i := 8) (oi := { dst := some 62, op := Go.Op.load 32 (Go.Operand.tmp 61), type := 32, pos := "law.go:137", after := #[{ on := 7, ground := Go.Ground.data }], guard := none }) (v := .slice Ak pk.length ck) 11 rfl (by kernel_rfl) (by kernel_rfl) (by kernel_rfl) (by kernel_rfl) (fun _ _ _ h => h) hS (Or.inl ⟨by rfl, fun w hSw => ?_⟩) ?_
          · go_split_ands
            go_simp
          try simp only [Act.put, List.setIfInBounds_toArray, List.set_cons_zero, List.set_cons_succ]
          refine wpAnyL_take0 (i := 9) (oi := { dst := some 63, op := Go.Op.fieldAddr 34 (Go.Operand.tmp 10) 0, type := 0, pos := "law.go:137", after := #[], guard := none }) (v := .pointer (some ⟨N10, 0, none⟩)) rfl (by kernel_rfl) (by kernel_rfl) (by kernel_rfl) (by kernel_rfl) (fun _ _ _ h => h) hS (Or.inl ⟨by rfl, fun w hSw => ?_⟩) ?_
          · go_split_ands
            go_simp
          try simp only [Act.put, List.setIfInBounds_toArray, List.set_cons_zero, List.set_cons_succ]
          refine wpAnyL_take2 (i := 10) (oi := { dst := some 64, op := Go.Op.load 9 (Go.Operand.tmp 63), type := 9, pos := "law.go:137", after := #[{ on := 9, ground := Go.Ground.data }], guard := none }) (v := .string p.1) 11 rfl (by kernel_rfl) (by kernel_rfl) (by kernel_rfl) (by kernel_rfl) (fun _ _ _ h => h) hS (Or.inl ⟨by rfl, fun w hSw => ?_⟩) ?_
          · go_split_ands
            go_simp
          try simp only [Act.put, List.setIfInBounds_toArray, List.set_cons_zero, List.set_cons_succ]
          refine wpAnyL_ready (rs := [2]) (by kernel_rfl) (by simp) ?_
          refine AllReadyL.cons (o := { dst := some 56, op := Go.Op.buildSlice 49 1 #[(0, Go.Operand.tmp 55)], type := 49, pos := "law.go:137", after := #[{ on := 1, ground := Go.Ground.data }], guard := none }) rfl (fun K' hK => ?_) AllReadyL.nil
          go_simp
          have hBl := (Below.refl _ Wd).alloc (Nat.le_refl _) (.cells #[.pointer (some ⟨b1, 0, none⟩)] 30)
          have n2 : (Wd.alloc (.cells #[.pointer (some ⟨b1, 0, none⟩)] 30)).heap[Wd.heap.size]? = some (.cells #[.pointer (some ⟨b1, 0, none⟩)] 30 (0, 0)) := heap_alloc_new Wd _
          have hSn := keepS hS hBl
          have hV := hV.below hBl
          have hH := hH.below hBl
          have hP10 := hP10.below hBl
          have hB := hB.trans (hBl.mono hB.size)
          refine hK.out _ _ (fun _ => hSn) ?_
          clear hK K' hS hBl
          try simp only [Act.put, List.setIfInBounds_toArray, List.set_cons_zero, List.set_cons_succ]
          generalize Wd.alloc (.cells #[.pointer (some ⟨b1, 0, none⟩)] 30) = Wa at *
          generalize Wd.heap.size = B2 at *
          have hS := hSn
          clear hSn
          refine wpAnyL_ready (rs := [3]) (by kernel_rfl) (by simp) ?_
          refine AllReadyL.cons (o := { dst := some 57, op := Go.Op.call { callee := Go.Callee.builtin Go.Builtin.append, args := #[Go.Operand.tmp 54, Go.Operand.tmp 56], argTypes := #[49, 49] }, type := 49, pos := "law.go:137", after := #[{ on := 0, ground := Go.Ground.data }, { on := 2, ground := Go.Ground.data }], guard := none }) rfl (fun K' hK => ?_) AllReadyL.nil
          refine step_append_lies _ (by rfl) _ _ _ (by rfl) w.heap.size 30 i30 _ 1 8 Tryz.underlying49 hi30 hy300 hy301 hy302 zsz_ptr (by decide) (.slice (some ⟨g5, 0, none⟩) NV c5) NV (kcs bs) (by rfl) (by have := hV.r5; rw [HBL.out] at this; exact this) ⟨B2, 0, none⟩ 1 1 [.pointer (some ⟨b1, 0, none⟩)] (by rfl) rfl (World.news_of_block n2) (by simp [Value.oneCell']) (by omega) (by unfold maxLen; omega) (by omega) hV.hb _ rfl ?_
          intro gn5 cn5 Wb hown1 hgrow1 hat1 hlt1
          have hV2 := hV.grow5 (g := gn5) (cap := cn5) (b := b1) hgrow1 (by rw [HBL.out]; exact hown1) hat1
          have hH2 := hV.far5 hgrow1 hH (by decide)
          have hP2 := hV.far5 hgrow1 hP10 (by decide)
          have hS2 : (fun w' : World => w'.cell? ⟨g6, K, none⟩ = some (.slice Ak pk.length ck) ∧ w'.cell? ⟨N10, 0, none⟩ = some (.string p.1) ∧ w'.cell? ⟨N10, 1, none⟩ = some (.string p.2)) Wb := ⟨(hgrow1.cell_far ⟨g6, K, none⟩ (World.block_lt_of_cell? _ _ hS.1) (fun e => by
              obtain ⟨cs5, h5⟩ := own_cells hV.r5 g6 e.symm
              obtain ⟨cs6, h6⟩ := own_cells hV.r6 g6 rfl
              rw [h5] at h6; simp at h6)).trans hS.1, hP2.cell 0, hP2.cell 1⟩
          have hBn := hB.grown hgrow1 hB.size (own_ge hV.r5)
          rw [HBL.out] at hV2
          refine hK.out _ _ (fun _ => hS2) ?_
          clear hK K' hS hgrow1 hat1 hlt1 hown1 n2 hV hH hP10 hB
          try simp only [Act.put, List.setIfInBounds_toArray, List.set_cons_zero, List.set_cons_succ]
          have hS := hS2
          have hV := hV2
          have hH := hH2
          have hP10 := hP2
          have hB := hBn
          clear hS2 hV2 hH2 hP2 hBn
          refine wpAnyL_ready (rs := [11]) (by kernel_rfl) (by simp) ?_
          refine AllReadyL.cons (o := { dst := some 65, op := Go.Op.call { callee := Go.Callee.value (Go.Operand.func 14), args := #[Go.Operand.tmp 62, Go.Operand.tmp 64], argTypes := #[32, 9] }, type := 32, pos := "law.go:137", after := #[{ on := 8, ground := Go.Ground.data }, { on := 10, ground := Go.Ground.data }, { on := 3, ground := Go.Ground.chain }], guard := none }) rfl (fun K' hK => ?_) AllReadyL.nil
          go_simp
          have kc := refDrop_any Ak ck pk p.1 _ (hRk _ hV) (by omega)
          skip
          refine kc.mono ?_
          rintro e Wc ⟨v8, rfl, hO8, hBc⟩
          go_wp2_with fail
          clear kc
          have hO8 := OwnR.base hO8 hV.hb
          have hSn := keepS hS hBc
          have hV := hV.below hBc
          have hH := hH.below hBc
          have hP10 := hP10.below hBc
          have hB := hB.trans (hBc.mono hB.size)
          obtain ⟨A8, c8, rfl, hR8⟩ := hO8.rd
          refine hK.out _ _ (fun _ => hSn) ?_
          clear hK K' hS hBc hR8
          try simp only [Act.put, List.setIfInBounds_toArray, List.set_cons_zero, List.set_cons_succ]
          have hS := hSn
          clear hSn
          refine wpAnyL_ready (rs := [12]) (by kernel_rfl) (by simp) ?_
          refine AllReadyL.cons (o := { dst := some 66, op := Go.Op.buildSlice 50 1 #[(0, Go.Operand.tmp 65)], type := 50, pos := "law.go:137", after := #[{ on := 11, ground := Go.Ground.data }], guard := none }) rfl (fun K' hK => ?_) AllReadyL.nil
          go_simp
          have hBl := (Below.refl _ Wc).alloc (Nat.le_refl _) (.cells #[(.slice A8 (dropK pk p.1).length c8)] 32)
          have n2 : (Wc.alloc (.cells #[(.slice A8 (dropK pk p.1).length c8)] 32)).heap[Wc.heap.size]? = some (.cells #[(.slice A8 (dropK pk p.1).length c8)] 32 (0, 0)) := heap_alloc_new Wc _
          have hSn := keepS hS hBl
          have hV := hV.below hBl
          have hH := hH.below hBl
          have hP10 := hP10.below hBl
          have hO8 := hO8.below' hBl
          have hB := hB.trans (hBl.mono hB.size)
          refine hK.out _ _ (fun _ => hSn) ?_
          clear hK K' hS hBl
          try simp only [Act.put, List.setIfInBounds_toArray, List.set_cons_zero, List.set_cons_succ]
          generalize Wc.alloc (.cells #[(.slice A8 (dropK pk p.1).length c8)] 32) = We at *
          generalize Wc.heap.size = B3 at *
          have hV := hV.addL hO8
          clear hO8
          refine wpAnyL_ready (rs := [13]) (by kernel_rfl) (by simp) ?_
          refine AllReadyL.cons (o := { dst := some 67, op := Go.Op.call { callee := Go.Callee.builtin Go.Builtin.append, args := #[Go.Operand.tmp 58, Go.Operand.tmp 66], argTypes := #[50, 50] }, type := 50, pos := "law.go:137", after := #[{ on := 4, ground := Go.Ground.data }, { on := 12, ground := Go.Ground.data }, { on := 11, ground := Go.Ground.chain }], guard := none }) rfl (fun K' hK => ?_) AllReadyL.nil
          refine step_append_lies _ (by rfl) _ _ _ (by rfl) w.heap.size 32 i32 _ 1 24 Tryz.underlying50 hi32 hy320 hy321 hy322 zsz_sl (by decide) (.slice (some ⟨g6, 0, none⟩) NV c6) NV ls (by rfl) (by have := hV.r6; rw [HLL.out] at this; exact this) ⟨B3, 0, none⟩ 1 1 [(.slice A8 (dropK pk p.1).length c8)] (by rfl) rfl (World.news_of_block n2) (by simp [Value.oneCell']) (by omega) (by unfold maxLen; omega) (by omega) hV.hb _ rfl ?_
          intro gn6 cn6 Wf hown1 hgrow1 hat1 hlt1
          have hV2 := hV.grow6 (g := gn6) (cap := cn6) (u := (.slice A8 (dropK pk p.1).length c8)) hgrow1 (by rw [HLL.out]; exact hown1)
          have hH2 := hV.far6 hgrow1 hH (by decide)
          have hBn := hB.grown hgrow1 hB.size (own_ge hV.r6)
          rw [HLL.out] at hV2
          refine hK.out _ _ (late_no (by kernel_rfl)) ?_
          clear hK K' hgrow1 hat1 hlt1 hown1 n2 hV hH hP10 hB
          try simp only [Act.put, List.setIfInBounds_toArray, List.set_cons_zero, List.set_cons_succ]
          have hV := hV2
          have hH := hH2
          have hB := hBn
          clear hV2 hH2 hBn
          refine wpAnyL_ready (rs := [14]) (by kernel_rfl) (by simp) ?_
          refine AllReadyL.cons (o := { dst := some 5, op := Go.Op.assign (Go.Operand.tmp 57), type := 49, pos := "law.go:137", after := #[{ on := 3, ground := Go.Ground.data }, { on := 13, ground := Go.Ground.chain }, { on := 0, ground := Go.Ground.phase }, { on := 1, ground := Go.Ground.phase }, { on := 2, ground := Go.Ground.phase }, { on := 3, ground := Go.Ground.phase }, { on := 4, ground := Go.Ground.textOnly Go.Departure.lateStores }, { on := 5, ground := Go.Ground.textOnly Go.Departure.lateStores }, { on := 6, ground := Go.Ground.textOnly Go.Departure.lateStores }, { on := 7, ground := Go.Ground.textOnly Go.Departure.lateStores }, { on := 8, ground := Go.Ground.textOnly Go.Departure.lateStores }, { on := 9, ground := Go.Ground.textOnly Go.Departure.lateStores }, { on := 10, ground := Go.Ground.textOnly Go.Departure.lateStores }, { on := 11, ground := Go.Ground.textOnly Go.Departure.lateStoresUnsure }, { on := 12, ground := Go.Ground.textOnly Go.Departure.lateStores }, { on := 13, ground := Go.Ground.textOnly Go.Departure.lateStoresUnsure }], guard := none }) rfl (fun K' hK => ?_) AllReadyL.nil
          go_simp
          refine hK.out _ _ (late_no (by kernel_rfl)) ?_
          clear hK K'
          try simp only [Act.put, List.setIfInBounds_toArray, List.set_cons_zero, List.set_cons_succ]
          refine wpAnyL_ready (rs := [15]) (by kernel_rfl) (by simp) ?_
          refine AllReadyL.cons (o := { dst := some 6, op := Go.Op.assign (Go.Operand.tmp 67), type := 50, pos := "law.go:137", after := #[{ on := 13, ground := Go.Ground.data }, { on := 14, ground := Go.Ground.chain }, { on := 0, ground := Go.Ground.phase }, { on := 1, ground := Go.Ground.phase }, { on := 2, ground := Go.Ground.phase }, { on := 3, ground := Go.Ground.phase }, { on := 4, ground := Go.Ground.phase }, { on := 5, ground := Go.Ground.phase }, { on := 6, ground := Go.Ground.phase }, { on := 7, ground := Go.Ground.phase }, { on := 8, ground := Go.Ground.phase }, { on := 9, ground := Go.Ground.phase }, { on := 10, ground := Go.Ground.phase }, { on := 11, ground := Go.Ground.phase }, { on := 12, ground := Go.Ground.phase }, { on := 13, ground := Go.Ground.phase }, { on := 14, ground := Go.Ground.phase }], guard := none }) rfl (fun K' hK => ?_) AllReadyL.nil
          go_simp
          refine hK.out _ _ (late_no (by kernel_rfl)) ?_
          clear hK K'
          try simp only [Act.put, List.setIfInBounds_toArray, List.set_cons_zero, List.set_cons_succ]
          refine wpAnyL_done (by kernel_rfl) ?_ _
          clear z6 hRk
          have hfin := HSN.out (.slice A8 (dropK pk p.1).length c8) b1 (dropK pk p.1) _ gn5 cn5 gn6 cn6 hV
          go_wp2_with fail
          refine ⟨⟨j + 1, vs ++ [⟨b1, (.slice A8 (dropK pk p.1).length c8), dropK pk p.1⟩], by omega, by omega, ?_, by go_num, hfin, ?_, hH, hB⟩, by simp [intOf]; omega⟩
          · rw [List.length_append, hvl.out]; rfl
          · intro e he
            rcases List.mem_append.1 he with he | he
            · obtain ⟨q1, q2, q3⟩ := HPs.out e he
              exact ⟨q1, by omega, q3⟩
            · rw [List.mem_singleton] at he
              subst he
              exact ⟨drop_rises _ _ hrk, Nat.le_trans (List.length_filter_le _ _) (by omega), fun x hx => hzk x ((drop_mem _ _ _).1 hx).1⟩

        · have D3 := (dmod hdd).2 h3
          go_upto_region 13 with (fail)
          have hS0 : (fun w' : World => w'.cell? ⟨N2, 0, none⟩ = some (.int .u64 k0) ∧ w'.cell? ⟨N2, 1, none⟩ = some (.int .u64 k1) ∧ w'.cell? ⟨N2, 2, none⟩ = some (.int .u64 m) ∧ w'.cell? ⟨g5, K, none⟩ = some (.pointer (some ⟨bk, 0, none⟩)) ∧ w'.cell? ⟨N10, 0, none⟩ = some (.string p.1) ∧ w'.cell? ⟨N10, 1, none⟩ = some (.string p.2)) W4.drew := ⟨hH.cell 0, hH.cell 1, hH.cell 2, z5, hP10.cell 0, hP10.cell 1⟩
          have hdr : Below W4.heap.size W4 W4.drew := (Below.refl _ W4).drew
          have hV := hV.below hdr
          have hH := hH.below hdr
          have hP10 := hP10.below hdr
          have hB := hB.drew
          clear z5
          refine wp_region_held_drew (S := fun w' : World => w'.cell? ⟨N2, 0, none⟩ = some (.int .u64 k0) ∧ w'.cell? ⟨N2, 1, none⟩ = some (.int .u64 k1) ∧ w'.cell? ⟨N2, 2, none⟩ = some (.int .u64 m) ∧ w'.cell? ⟨g5, K, none⟩ = some (.pointer (some ⟨bk, 0, none⟩)) ∧ w'.cell? ⟨N10, 0, none⟩ = some (.string p.1) ∧ w'.cell? ⟨N10, 1, none⟩ = some (.string p.2)) (by kernel_rfl) hS0 ?_
          intro hS
          refine wpAnyH_take (i := 0) (oi := { dst := some 69, op := Go.Op.load 26 (Go.Operand.tmp 2), type := 26, pos := "law.go:139", after := #[], guard := none }) (v := .agg #[.int .u64 k0, .int .u64 k1, .int .u64 m]) rfl (by kernel_rfl) (by kernel_rfl) (by kernel_rfl) (fun _ _ _ h => h) (Or.inl ⟨by rfl, fun w hSw => ?_⟩) hS ?_
          · go_split_ands
            go_simp
          try simp only [Act.put, List.setIfInBounds_toArray, List.set_cons_zero, List.set_cons_succ]
          refine wpAnyH_take (i := 1) (oi := { dst := some 70, op := Go.Op.move (Go.Operand.tmp 5), type := 49, pos := "law.go:139", after := #[], guard := none }) (v := .slice (some ⟨g5, 0, none⟩) NV c5) rfl (by kernel_rfl) (by kernel_rfl) (by kernel_rfl) (fun _ _ _ h => h) (Or.inl ⟨by rfl, fun w hSw => ?_⟩) hS ?_
          · go_split_ands
            go_simp
          try simp only [Act.put, List.setIfInBounds_toArray, List.set_cons_zero, List.set_cons_succ]
          refine wpAnyH_take (i := 2) (oi := { dst := some 71, op := Go.Op.move (Go.Operand.tmp 9), type := 3, pos := "law.go:139", after := #[], guard := none }) (v := .int .i64 K) rfl (by kernel_rfl) (by kernel_rfl) (by kernel_rfl) (fun _ _ _ h => h) (Or.inl ⟨by rfl, fun w hSw => ?_⟩) hS ?_
          · go_split_ands
            go_simp
          try simp only [Act.put, List.setIfInBounds_toArray, List.set_cons_zero, List.set_cons_succ]
          refine wpAnyH_take (i := 3) (oi := { dst := some 72, op := Go.Op.indexAddr 49 (Go.Operand.tmp 70) (Go.Operand.tmp 71), type := 0, pos := "law.go:139", after := #[{ on := 1, ground := Go.Ground.data }, { on := 2, ground := Go.Ground.data }], guard := none }) (v := .pointer (some ⟨g5, K, none⟩)) rfl (by kernel_rfl) (by kernel_rfl) (by kernel_rfl) (fun _ _ _ h => h) (Or.inl ⟨by rfl, fun w hSw => ?_⟩) hS ?_
          · go_split_ands
            go_simp
          try simp only [Act.put, List.setIfInBounds_toArray, List.set_cons_zero, List.set_cons_succ]
          refine wpAnyH_take (i := 4) (oi := { dst := some 73, op := Go.Op.load 30 (Go.Operand.tmp 72), type := 30, pos := "law.go:139", after := #[{ on := 3, ground := Go.Ground.data }], guard := none }) (v := .pointer (some ⟨bk, 0, none⟩)) rfl (by kernel_rfl) (by kernel_rfl) (by kernel_rfl) (fun _ _ _ h => h) (Or.inl ⟨by rfl, fun w hSw => ?_⟩) hS ?_
          · go_split_ands
            go_simp
          try simp only [Act.put, List.setIfInBounds_toArray, List.set_cons_zero, List.set_cons_succ]
          refine wpAnyH_take (i := 5) (oi := { dst := some 74, op := Go.Op.load 34 (Go.Operand.tmp 10), type := 34, pos := "law.go:139", after := #[], guard := none }) (v := .agg #[.string p.1, .string p.2]) rfl (by kernel_rfl) (by kernel_rfl) (by kernel_rfl) (fun _ _ _ h => h) (Or.inl ⟨by rfl, fun w hSw => ?_⟩) hS ?_
          · go_split_ands
            go_simp
          try simp only [Act.put, List.setIfInBounds_toArray, List.set_cons_zero, List.set_cons_succ]
          refine wpAnyH_ready (rs := [6]) (by kernel_rfl) (by simp) ?_
          refine AllReadyH.cons (o := { dst := some 75, op := Go.Op.call { callee := Go.Callee.value (Go.Operand.func 15), args := #[Go.Operand.tmp 69, Go.Operand.const (Go.Value.pointer none), Go.Operand.tmp 73, Go.Operand.tmp 74], argTypes := #[26, 56, 30, 34] }, type := 40, pos := "law.go:139", after := #[{ on := 0, ground := Go.Ground.data }, { on := 4, ground := Go.Ground.data }, { on := 5, ground := Go.Ground.data }], guard := none }) rfl (fun K hK => ?_) AllReadyH.nil
          go_simp
          refine (kp _ hdr).mono ?_
          rintro e wA ⟨b1, rfl, hT1, hBA⟩
          go_wp2_with fail
          have hSn := keep6v hS hBA
          refine hK.out _ _ hSn (fun _ => ?_)
          clear hK K hS
          try simp only [Act.put, List.setIfInBounds_toArray, List.set_cons_zero, List.set_cons_succ]
          have hS := hSn
          clear hSn
          have hB := hB.trans (hBA.mono hB.size)
          have hV := hV.below hBA
          have hH := hH.below hBA
          have hP10 := hP10.below hBA
          clear hBA
          refine wpAnyH_take (i := 7) (oi := { dst := some 68, op := Go.Op.move (Go.Operand.tmp 75), type := 40, pos := "law.go:139", after := #[{ on := 6, ground := Go.Ground.data }], guard := none }) (v := .tuple #[.pointer (some ⟨b1, 0, none⟩), .bool (getK pk p.1).isNone]) rfl (by kernel_rfl) (by kernel_rfl) (by kernel_rfl) (fun _ _ _ h => h) (Or.inl ⟨by rfl, fun w hSw => ?_⟩) hS ?_
          · go_split_ands
            go_simp
          try simp only [Act.put, List.setIfInBounds_toArray, List.set_cons_zero, List.set_cons_succ]
          refine wpAnyH_take (i := 8) (oi := { dst := some 76, op := Go.Op.extract (Go.Operand.tmp 68) 0, type := 30, pos := "law.go:139", after := #[{ on := 7, ground := Go.Ground.data }], guard := none }) (v := .pointer (some ⟨b1, 0, none⟩)) rfl (by kernel_rfl) (by kernel_rfl) (by kernel_rfl) (fun _ _ _ h => h) (Or.inl ⟨by rfl, fun w hSw => ?_⟩) hS ?_
          · go_split_ands
            go_simp
          try simp only [Act.put, List.setIfInBounds_toArray, List.set_cons_zero, List.set_cons_succ]
          refine wpAnyH_take (i := 9) (oi := { dst := some 77, op := Go.Op.extract (Go.Operand.tmp 68) 1, type := 4, pos := "law.go:139", after := #[{ on := 7, ground := Go.Ground.data }, { on := 10, ground := Go.Ground.gcOnly Go.Departure.lateStores }], guard := none }) (v := .bool (getK pk p.1).isNone) rfl (by kernel_rfl) (by kernel_rfl) (by kernel_rfl) (fun _ _ _ h => h) (Or.inl ⟨by rfl, fun w hSw => ?_⟩) hS ?_
          · go_split_ands
            go_simp
          try simp only [Act.put, List.setIfInBounds_toArray, List.set_cons_zero, List.set_cons_succ]
          refine wpAnyH_take (i := 10) (oi := { dst := some 13, op := Go.Op.assign (Go.Operand.tmp 76), type := 30, pos := "law.go:139", after := #[{ on := 8, ground := Go.Ground.data }, { on := 6, ground := Go.Ground.chain }, { on := 0, ground := Go.Ground.phase }, { on := 1, ground := Go.Ground.phase }, { on := 2, ground := Go.Ground.phase }, { on := 3, ground := Go.Ground.phase }, { on := 4, ground := Go.Ground.phase }, { on := 5, ground := Go.Ground.phase }, { on := 6, ground := Go.Ground.phase }, { on := 7, ground := Go.Ground.phase }, { on := 8, ground := Go.Ground.phase }, { on := 9, ground := Go.Ground.textOnly Go.Departure.lateStores }], guard := none }) (v := .pointer (some ⟨b1, 0, none⟩)) rfl (by kernel_rfl) (by kernel_rfl) (by kernel_rfl) (fun _ _ _ h => h) (Or.inl ⟨by rfl, fun w hSw => ?_⟩) hS ?_
          · go_split_ands
            go_simp
          try simp only [Act.put, List.setIfInBounds_toArray, List.set_cons_zero, List.set_cons_succ]
          refine wpAnyH_take (i := 11) (oi := { dst := some 14, op := Go.Op.assign (Go.Operand.tmp 77), type := 4, pos := "law.go:139", after := #[{ on := 9, ground := Go.Ground.data }, { on := 10, ground := Go.Ground.chain }, { on := 0, ground := Go.Ground.phase }, { on := 1, ground := Go.Ground.phase }, { on := 2, ground := Go.Ground.phase }, { on := 3, ground := Go.Ground.phase }, { on := 4, ground := Go.Ground.phase }, { on := 5, ground := Go.Ground.phase }, { on := 6, ground := Go.Ground.phase }, { on := 7, ground := Go.Ground.phase }, { on := 8, ground := Go.Ground.phase }, { on := 9, ground := Go.Ground.phase }, { on := 10, ground := Go.Ground.phase }], guard := none }) (v := .bool (getK pk p.1).isNone) rfl (by kernel_rfl) (by kernel_rfl) (by kernel_rfl) (fun _ _ _ h => h) (Or.inl ⟨by rfl, fun w hSw => ?_⟩) hS ?_
          · go_split_ands
            go_simp
          try simp only [Act.put, List.setIfInBounds_toArray, List.set_cons_zero, List.set_cons_succ]
          refine wpAnyH_done (by kernel_rfl) ?_ _
          clear hS kd kp hdr
          generalize (getK pk p.1).isNone = gb at *
          have hV := hV.addT hT1
          clear hT1
          obtain ⟨gx, cx, ex, z6⟩ := row_at hV.r6 K (by rw [HLL.out]; exact hKlt) (.slice Ak pk.length ck) HLK.out
          simp only [Value.slice.injEq, Option.some.injEq, Addr.mk.injEq, and_true] at ex
          obtain ⟨rfl, -⟩ := ex
          obtain ⟨W, hW⟩ : ∃ W, W = wA := ⟨_, rfl⟩
          subst hW
          go_upto_region 14 with (fail)
          refine wp_region_late (S := fun w' => w'.cell? ⟨g6, K, none⟩ = some (.slice Ak pk.length ck) ∧ w'.cell? ⟨N10, 0, none⟩ = some (.string p.1) ∧ w'.cell? ⟨N10, 1, none⟩ = some (.string p.2)) (st := 12) (by kernel_rfl) ?_
          have hS : (fun w' : World => w'.cell? ⟨g6, K, none⟩ = some (.slice Ak pk.length ck) ∧ w'.cell? ⟨N10, 0, none⟩ = some (.string p.1) ∧ w'.cell? ⟨N10, 1, none⟩ = some (.string p.2)) W.drew := ⟨z6, hP10.cell 0, hP10.cell 1⟩
          have hdr2 : Below W.heap.size W W.drew := (Below.refl _ W).drew
          have hV := hV.below hdr2
          have hH := hH.below hdr2
          have hP10 := hP10.below hdr2
          have hB := hB.drew
          clear hdr2
          generalize W.drew = Wd at *
          refine wpAnyL_take0 (i := 0) (oi := { dst := some 78, op := Go.Op.move (Go.Operand.tmp 5), type := 49, pos := "law.go:140", after := #[], guard := none }) (v := .slice (some ⟨g5, 0, none⟩) NV c5) rfl (by kernel_rfl) (by kernel_rfl) (by kernel_rfl) (by kernel_rfl) (fun _ _ _ h => h) hS (Or.inl ⟨by rfl, fun w hSw => ?_⟩) ?_
          · go_split_ands
            go_simp
          try simp only [Act.put, List.setIfInBounds_toArray, List.set_cons_zero, List.set_cons_succ]
          refine wpAnyL_take0 (i := 1) (oi := { dst := some 79, op := Go.Op.move (Go.Operand.tmp 13), type := 30, pos := "law.go:140", after := #[], guard := none }) (v := .pointer (some ⟨b1, 0, none⟩)) rfl (by kernel_rfl) (by kernel_rfl) (by kernel_rfl) (by kernel_rfl) (fun _ _ _ h => h) hS (Or.inl ⟨by rfl, fun w hSw => ?_⟩) ?_
          · go_split_ands
            go_simp
          try simp only [Act.put, List.setIfInBounds_toArray, List.set_cons_zero, List.set_cons_succ]
          refine wpAnyL_take0 (i := 4) (oi := { dst := some 82, op := Go.Op.move (Go.Operand.tmp 6), type := 50, pos := "law.go:140", after := #[], guard := none }) (v := .slice (some ⟨g6, 0, none⟩) NV c6) rfl (by kernel_rfl) (by kernel_rfl) (by kernel_rfl) (by kernel_rfl) (fun _ _ _ h => h) hS (Or.inl ⟨by rfl, fun w hSw => ?_⟩) ?_
          · go_split_ands
            go_simp
          try simp only [Act.put, List.setIfInBounds_toArray, List.set_cons_zero, List.set_cons_succ]
          refine wpAnyL_take0 (i := 5) (oi := { dst := some 83, op := Go.Op.move (Go.Operand.tmp 6), type := 50, pos := "law.go:140", after := #[], guard := none }) (v := .slice (some ⟨g6, 0, none⟩) NV c6) rfl (by kernel_rfl) (by kernel_rfl) (by kernel_rfl) (by kernel_rfl) (fun _ _ _ h => h) hS (Or.inl ⟨by rfl, fun w hSw => ?_⟩) ?_
          · go_split_ands
            go_simp
          try simp only [Act.put, List.setIfInBounds_toArray, List.set_cons_zero, List.set_cons_succ]
          refine wpAnyL_take0 (i := 6) (oi := { dst := some 84, op := Go.Op.move (Go.Operand.tmp 9), type := 3, pos := "law.go:140", after := #[], guard := none }) (v := .int .i64 K) rfl (by kernel_rfl) (by kernel_rfl) (by kernel_rfl) (by kernel_rfl) (fun _ _ _ h => h) hS (Or.inl ⟨by rfl, fun w hSw => ?_⟩) ?_
          · go_split_ands
            go_simp
          try simp only [Act.put, List.setIfInBounds_toArray, List.set_cons_zero, List.set_cons_succ]
          refine wpAnyL_take0 (i := 7) (oi := { dst := some 85, op := Go.Op.indexAddr 50 (Go.Operand.tmp 83) (Go.Operand.tmp 84), type := 0, pos := "law.go:140", after := #[{ on := 5, ground := Go.Ground.data }, { on := 6, ground := Go.Ground.data }], guard := none }) (v := .pointer (some ⟨g6, K, none⟩)) rfl (by kernel_rfl) (by kernel_rfl) (by kernel_rfl) (by kernel_rfl) (fun _ _ _ h => h) hS (Or.inl ⟨by rfl, fun w hSw => ?_⟩) ?_
          · go_split_ands
            go_simp
          try simp only [Act.put, List.setIfInBounds_toArray, List.set_cons_zero, List.set_cons_succ]
          refine wpAnyL_take2 (i := 8) (oi := { dst := some 86, op := Go.Op.load 32 (Go.Operand.tmp 85), type := 32, pos := "law.go:140", after := #[{ on := 7, ground := Go.Ground.data }], guard := none }) (v := .slice Ak pk.length ck) 10 rfl (by kernel_rfl) (by kernel_rfl) (by kernel_rfl) (by kernel_rfl) (fun _ _ _ h => h) hS (Or.inl ⟨by rfl, fun w hSw => ?_⟩) ?_
          · go_split_ands
            go_simp
          try simp only [Act.put, List.setIfInBounds_toArray, List.set_cons_zero, List.set_cons_succ]
          refine wpAnyL_take2 (i := 9) (oi := { dst := some 87, op := Go.Op.load 34 (Go.Operand.tmp 10), type := 34, pos := "law.go:140", after := #[], guard := none }) (v := .agg #[.string p.1, .string p.2]) 10 rfl (by kernel_rfl) (by kernel_rfl) (by kernel_rfl) (by kernel_rfl) (fun _ _ _ h => h) hS (Or.inl ⟨by rfl, fun w hSw => ?_⟩) ?_
          · go_split_ands
            go_simp
          try simp only [Act.put, List.setIfInBounds_toArray, List.set_cons_zero, List.set_cons_succ]
          refine wpAnyL_ready (rs := [2]) (by kernel_rfl) (by simp) ?_
          refine AllReadyL.cons (o := { dst := some 80, op := Go.Op.buildSlice 49 1 #[(0, Go.Operand.tmp 79)], type := 49, pos := "law.go:140", after := #[{ on := 1, ground := Go.Ground.data }], guard := none }) rfl (fun K' hK => ?_) AllReadyL.nil
          go_simp
          have hBl := (Below.refl _ Wd).alloc (Nat.le_refl _) (.cells #[.pointer (some ⟨b1, 0, none⟩)] 30)
          have n2 : (Wd.alloc (.cells #[.pointer (some ⟨b1, 0, none⟩)] 30)).heap[Wd.heap.size]? = some (.cells #[.pointer (some ⟨b1, 0, none⟩)] 30 (0, 0)) := heap_alloc_new Wd _
          have hSn := keepS hS hBl
          have hV := hV.below hBl
          have hH := hH.below hBl
          have hP10 := hP10.below hBl
          have hB := hB.trans (hBl.mono hB.size)
          refine hK.out _ _ (fun _ => hSn) ?_
          clear hK K' hS hBl
          try simp only [Act.put, List.setIfInBounds_toArray, List.set_cons_zero, List.set_cons_succ]
          generalize Wd.alloc (.cells #[.pointer (some ⟨b1, 0, none⟩)] 30) = Wa at *
          generalize Wd.heap.size = B2 at *
          have hS := hSn
          clear hSn
          refine wpAnyL_ready (rs := [3]) (by kernel_rfl) (by simp) ?_
          refine AllReadyL.cons (o := { dst := some 81, op := Go.Op.call { callee := Go.Callee.builtin Go.Builtin.append, args := #[Go.Operand.tmp 78, Go.Operand.tmp 80], argTypes := #[49, 49] }, type := 49, pos := "law.go:140", after := #[{ on := 0, ground := Go.Ground.data }, { on := 2, ground := Go.Ground.data }], guard := none }) rfl (fun K' hK => ?_) AllReadyL.nil
          refine step_append_lies _ (by rfl) _ _ _ (by rfl) w.heap.size 30 i30 _ 1 8 Tryz.underlying49 hi30 hy300 hy301 hy302 zsz_ptr (by decide) (.slice (some ⟨g5, 0, none⟩) NV c5) NV (kcs bs) (by rfl) (by have := hV.r5; rw [HBL.out] at this; exact this) ⟨B2, 0, none⟩ 1 1 [.pointer (some ⟨b1, 0, none⟩)] (by rfl) rfl (World.news_of_block n2) (by simp [Value.oneCell']) (by omega) (by unfold maxLen; omega) (by omega) hV.hb _ rfl ?_
          intro gn5 cn5 Wb hown1 hgrow1 hat1 hlt1
          have hV2 := hV.grow5 (g := gn5) (cap := cn5) (b := b1) hgrow1 (by rw [HBL.out]; exact hown1) hat1
          have hH2 := hV.far5 hgrow1 hH (by decide)
          have hP2 := hV.far5 hgrow1 hP10 (by decide)
          have hS2 : (fun w' : World => w'.cell? ⟨g6, K, none⟩ = some (.slice Ak pk.length ck) ∧ w'.cell? ⟨N10, 0, none⟩ = some (.string p.1) ∧ w'.cell? ⟨N10, 1, none⟩ = some (.string p.2)) Wb := ⟨(hgrow1.cell_far ⟨g6, K, none⟩ (World.block_lt_of_cell? _ _ hS.1) (fun e => by
              obtain ⟨cs5, h5⟩ := own_cells hV.r5 g6 e.symm
              obtain ⟨cs6, h6⟩ := own_cells hV.r6 g6 rfl
              rw [h5] at h6; simp at h6)).trans hS.1, hP2.cell 0, hP2.cell 1⟩
          have hBn := hB.grown hgrow1 hB.size (own_ge hV.r5)
          rw [HBL.out] at hV2
          refine hK.out _ _ (fun _ => hS2) ?_
          clear hK K' hS hgrow1 hat1 hlt1 hown1 n2 hV hH hP10 hB
          try simp only [Act.put, List.setIfInBounds_toArray, List.set_cons_zero, List.set_cons_succ]
          have hS := hS2
          have hV := hV2
          have hH := hH2
          have hP10 := hP2
          have hB := hBn
          clear hS2 hV2 hH2 hP2 hBn
          refine wpAnyL_ready (rs := [10]) (by kernel_rfl) (by simp) ?_
          refine AllReadyL.cons (o := { dst := some 88, op := Go.Op.call { callee := Go.Callee.value (Go.Operand.func 16), args := #[Go.Operand.tmp 86, Go.Operand.tmp 87], argTypes := #[32, 45] }, type := 32, pos := "law.go:140", after := #[{ on := 8, ground := Go.Ground.data }, { on := 9, ground := Go.Ground.data }, { on := 3, ground := Go.Ground.chain }], guard := none }) rfl (fun K' hK => ?_) AllReadyL.nil
          go_simp
          have kc := refPut_any Ak ck pk p _ (hRk _ hV) (by omega) (sized_mem fun x hx => Nat.le_trans (hzk x hx) (by unfold maxLen; omega)) (by unfold maxLen; omega)
          unfold Pr.v at kc
          refine kc.mono ?_
          rintro e Wc ⟨v8, rfl, hO8, hBc⟩
          go_wp2_with fail
          clear kc
          have hO8 := OwnR.base hO8 hV.hb
          have hSn := keepS hS hBc
          have hV := hV.below hBc
          have hH := hH.below hBc
          have hP10 := hP10.below hBc
          have hB := hB.trans (hBc.mono hB.size)
          obtain ⟨A8, c8, rfl, hR8⟩ := hO8.rd
          refine hK.out _ _ (fun _ => hSn) ?_
          clear hK K' hS hBc hR8
          try simp only [Act.put, List.setIfInBounds_toArray, List.set_cons_zero, List.set_cons_succ]
          have hS := hSn
          clear hSn
          refine wpAnyL_ready (rs := [11]) (by kernel_rfl) (by simp) ?_
          refine AllReadyL.cons (o := { dst := some 89, op := Go.Op.buildSlice 50 1 #[(0, Go.Operand.tmp 88)], type := 50, pos := "law.go:140", after := #[{ on := 10, ground := Go.Ground.data }], guard := none }) rfl (fun K' hK => ?_) AllReadyL.nil
          go_simp
          have hBl := (Below.refl _ Wc).alloc (Nat.le_refl _) (.cells #[(.slice A8 (putK pk p).length c8)] 32)
          have n2 : (Wc.alloc (.cells #[(.slice A8 (putK pk p).length c8)] 32)).heap[Wc.heap.size]? = some (.cells #[(.slice A8 (putK pk p).length c8)] 32 (0, 0)) := heap_alloc_new Wc _
          have hSn := keepS hS hBl
          have hV := hV.below hBl
          have hH := hH.below hBl
          have hP10 := hP10.below hBl
          have hO8 := hO8.below' hBl
          have hB := hB.trans (hBl.mono hB.size)
          refine hK.out _ _ (fun _ => hSn) ?_
          clear hK K' hS hBl
          try simp only [Act.put, List.setIfInBounds_toArray, List.set_cons_zero, List.set_cons_succ]
          generalize Wc.alloc (.cells #[(.slice A8 (putK pk p).length c8)] 32) = We at *
          generalize Wc.heap.size = B3 at *
          have hV := hV.addL hO8
          clear hO8
          refine wpAnyL_ready (rs := [12]) (by kernel_rfl) (by simp) ?_
          refine AllReadyL.cons (o := { dst := some 90, op := Go.Op.call { callee := Go.Callee.builtin Go.Builtin.append, args := #[Go.Operand.tmp 82, Go.Operand.tmp 89], argTypes := #[50, 50] }, type := 50, pos := "law.go:140", after := #[{ on := 4, ground := Go.Ground.data }, { on := 11, ground := Go.Ground.data }, { on := 10, ground := Go.Ground.chain }], guard := none }) rfl (fun K' hK => ?_) AllReadyL.nil
          refine step_append_lies _ (by rfl) _ _ _ (by rfl) w.heap.size 32 i32 _ 1 24 Tryz.underlying50 hi32 hy320 hy321 hy322 zsz_sl (by decide) (.slice (some ⟨g6, 0, none⟩) NV c6) NV ls (by rfl) (by have := hV.r6; rw [HLL.out] at this; exact this) ⟨B3, 0, none⟩ 1 1 [(.slice A8 (putK pk p).length c8)] (by rfl) rfl (World.news_of_block n2) (by simp [Value.oneCell']) (by omega) (by unfold maxLen; omega) (by omega) hV.hb _ rfl ?_
          intro gn6 cn6 Wf hown1 hgrow1 hat1 hlt1
          have hV2 := hV.grow6 (g := gn6) (cap := cn6) (u := (.slice A8 (putK pk p).length c8)) hgrow1 (by rw [HLL.out]; exact hown1)
          have hH2 := hV.far6 hgrow1 hH (by decide)
          have hBn := hB.grown hgrow1 hB.size (own_ge hV.r6)
          rw [HLL.out] at hV2
          refine hK.out _ _ (late_no (by kernel_rfl)) ?_
          clear hK K' hgrow1 hat1 hlt1 hown1 n2 hV hH hP10 hB
          try simp only [Act.put, List.setIfInBounds_toArray, List.set_cons_zero, List.set_cons_succ]
          have hV := hV2
          have hH := hH2
          have hB := hBn
          clear hV2 hH2 hBn
          refine wpAnyL_ready (rs := [13]) (by kernel_rfl) (by simp) ?_
          refine AllReadyL.cons (o := { dst := some 5, op := Go.Op.assign (Go.Operand.tmp 81), type := 49, pos := "law.go:140", after := #[{ on := 3, ground := Go.Ground.data }, { on := 12, ground := Go.Ground.chain }, { on := 0, ground := Go.Ground.phase }, { on := 1, ground := Go.Ground.phase }, { on := 2, ground := Go.Ground.phase }, { on := 3, ground := Go.Ground.phase }, { on := 4, ground := Go.Ground.textOnly Go.Departure.lateStores }, { on := 5, ground := Go.Ground.textOnly Go.Departure.lateStores }, { on := 6, ground := Go.Ground.textOnly Go.Departure.lateStores }, { on := 7, ground := Go.Ground.textOnly Go.Departure.lateStores }, { on := 8, ground := Go.Ground.textOnly Go.Departure.lateStores }, { on := 9, ground := Go.Ground.textOnly Go.Departure.lateStores }, { on := 10, ground := Go.Ground.textOnly Go.Departure.lateStoresUnsure }, { on := 11, ground := Go.Ground.textOnly Go.Departure.lateStores }, { on := 12, ground := Go.Ground.textOnly Go.Departure.lateStoresUnsure }], guard := none }) rfl (fun K' hK => ?_) AllReadyL.nil
          go_simp
          refine hK.out _ _ (late_no (by kernel_rfl)) ?_
          clear hK K'
          try simp only [Act.put, List.setIfInBounds_toArray, List.set_cons_zero, List.set_cons_succ]
          refine wpAnyL_ready (rs := [14]) (by kernel_rfl) (by simp) ?_
          refine AllReadyL.cons (o := { dst := some 6, op := Go.Op.assign (Go.Operand.tmp 90), type := 50, pos := "law.go:140", after := #[{ on := 12, ground := Go.Ground.data }, { on := 13, ground := Go.Ground.chain }, { on := 0, ground := Go.Ground.phase }, { on := 1, ground := Go.Ground.phase }, { on := 2, ground := Go.Ground.phase }, { on := 3, ground := Go.Ground.phase }, { on := 4, ground := Go.Ground.phase }, { on := 5, ground := Go.Ground.phase }, { on := 6, ground := Go.Ground.phase }, { on := 7, ground := Go.Ground.phase }, { on := 8, ground := Go.Ground.phase }, { on := 9, ground := Go.Ground.phase }, { on := 10, ground := Go.Ground.phase }, { on := 11, ground := Go.Ground.phase }, { on := 12, ground := Go.Ground.phase }, { on := 13, ground := Go.Ground.phase }], guard := none }) rfl (fun K' hK => ?_) AllReadyL.nil
          go_simp
          refine hK.out _ _ (late_no (by kernel_rfl)) ?_
          clear hK K'
          try simp only [Act.put, List.setIfInBounds_toArray, List.set_cons_zero, List.set_cons_succ]
          refine wpAnyL_done (by kernel_rfl) ?_ _
          clear z6 hRk
          have hfin := HSN.out (.slice A8 (putK pk p).length c8) b1 (putK pk p) _ gn5 cn5 gn6 cn6 hV
          go_wp2_with fail
          refine ⟨⟨j + 1, vs ++ [⟨b1, (.slice A8 (putK pk p).length c8), putK pk p⟩], by omega, by omega, ?_, by go_num, hfin, ?_, hH, hB⟩, by simp [intOf]; omega⟩
          · rw [List.length_append, hvl.out]; rfl
          · intro e he
            rcases List.mem_append.1 he with he | he
            · obtain ⟨q1, q2, q3⟩ := HPs.out e he
              exact ⟨q1, by omega, q3⟩
            · rw [List.mem_singleton] at he
              subst he
              refine ⟨put_rises _ hrk, Nat.le_trans (put_len p) (by omega), fun x hx => ?_⟩
              rcases put_sets.1 hx with rfl | ⟨h, _⟩
              · exact hp1
              · exact hzk x h

      · have G : (30 : Int) ≤ (j : Int) := by omega
        have HF := Lib.hid (vers16_any (fun e w' => e = .returned (.bool true) ∧ Below w.heap.size w w') k0 k1 m w W1 h0 h1 N2 u5 u6 vs hB hV hH (fun e he => by obtain ⟨q1, q2, q3⟩ := hPs e he; exact ⟨q1, by omega, q3⟩) (by omega) (fun w' h => ⟨rfl, h⟩))
        clear hV hH hAct HA
        repeat (first | exact HF.out _ _ _ _ _ _ _ _ _ _ _ _ _ _ _ _ _ _ _ _ _ _ _ _ _ _ _ _ _ _ _ _ _ _ _ _ _ _ _ _ _ _ _ _ _ _ _ _ _ _ _ _ _ _ _ _ _ _ _ _ _ _ _ _ _ _ _ _ _ _ _ _ _ _ _ _ _ _ _ _ _ _ _ _ _ _ _ _ _ _ _ _ _ _ _ _ _ _ _ _ _ _ _ _ _ _ | go_step)
    · obtain rfl : j = len1 := by omega
      have G : ¬ ((j : Int) < (j : Int)) := by omega
      have HF := Lib.hid (vers16_any (fun e w' => e = .returned (.bool true) ∧ Below w.heap.size w w') k0 k1 m w wr h0 h1 N2 u5 u6 vs hB hV hH (fun e he => by obtain ⟨q1, q2, q3⟩ := hPs e he; exact ⟨q1, by omega, q3⟩) (by omega) (fun w' h => ⟨rfl, h⟩))
      clear hV hH HA
      repeat (first | exact HF.out _ _ _ _ _ _ _ _ _ _ _ _ _ _ _ _ _ _ _ _ _ _ _ _ _ _ _ _ _ _ _ _ _ _ _ _ _ _ _ _ _ _ _ _ _ _ _ _ _ _ _ _ _ _ _ _ _ _ _ _ _ _ _ _ _ _ _ _ _ _ _ _ _ _ _ _ _ _ _ _ _ _ _ _ _ _ _ _ _ _ _ _ _ _ _ _ _ _ _ _ _ _ _ _ _ _ | go_step)

/-! ### THE ROW's STEP -/
set_option maxRecDepth 100000 in
theorem lifted (os : Os) (started : os.Started) (H : Type) (enc : TypeId × Value → H) :
    ReturnsInHanded {} Tryz.checked os 4 .any (Rows.champVersionsSpec.pre6 enc Tryz.prog Tryz.f4 Rows.champVersionsRow.domain false) (Rows.champVersionsSpec.post enc Tryz.prog Tryz.f4 false true false false) := by
  refine returnsInHanded_of_change (C := Tryz.checked) own started (by kernel_rfl) Tryz.func4
    (ChangeSpec.witness6 (enc := enc) (C := Tryz.checked) false ⟨#[], #[.agg #[.int .u64 0, .int .u64 0, .int .u64 0], .slice none 0 0], []⟩ 8 (by kernel_rfl) (by kernel_rfl) (by kernel_rfl) (by kernel_rfl)) ?_
  intro W base args ds gs before hval0 hW hcnd _
  have hval : ∀ (j : Nat) t v, Tryz.f4.params[j]? = some t → args[j]? = some v → Value.okWide Tryz.prog W .any base t v := hval0
  have hW' := hW
  obtain ⟨p, q, hA0, hV, rfl, hfz, hnd⟩ := hW
  have hA : DataW.TrodAll enc Tryz.prog W 0 (fun _ => true) true Tryz.f4.params.toList args.toList ds p := hA0
  rw [Tryz.params4] at hA hval
  obtain ⟨v0, vs0, d0, ds0, p0, q0, hargs, rfl, rfl, h0, r0⟩ := trodAll_cons hA
  obtain ⟨v1, vs1, d1, ds1, p1, q1, rfl, rfl, rfl, h1, r1⟩ := trodAll_cons r0
  obtain ⟨rfl, rfl, rfl⟩ := trodAll_nil r1
  obtain rfl : args = #[v0, v1] := by cases args; simp_all
  obtain ⟨rfl, rfl⟩ := trodVars_none hV
  have k0 := h0
  have lt0 : ∀ x ∈ p0, x.block < W.heap.size := by obtain ⟨m, hm⟩ := k0; exact DataW.trod_lt m _ _ _ hm
  obtain ⟨x0, y0, m0, rfl, u0, t0, r0_⟩ := open_hasher (hval 0 26 v0 rfl rfl) h0
  obtain ⟨a1, len1, cap1, rfl⟩ := okWide_slice Tryz.underlying27 (hval 1 27 v1 rfl rfl)
  have k1 := h1
  have lt1 : ∀ x ∈ p1, x.block < W.heap.size := by obtain ⟨m, hm⟩ := k1; exact DataW.trod_lt m _ _ _ hm
  have w1 := open_acts h1
  clear hA0 hval0
  refine (walk x0 y0 m0 a1 len1 cap1 W u0 t0 w1).mono fun e W' ⟨he, bel⟩ => ?_
  subst he
  exact ⟨_, rfl, _, _, _, [], _, [], hW', trodAll_mk1 (shut_bool Tryz.underlying4 _), (trodAll_cons_mk (Below.trod laidOut (by kernel_rfl) (of_decide_eq_true (by kernel_rfl)) k0 bel lt0) (trodAll_cons_mk (Below.trod laidOut (by kernel_rfl) (of_decide_eq_true (by kernel_rfl)) k1 bel lt1) trodAll_mk0)), rfl, bel.frame _, fun h => by cases h⟩

theorem over : Rows.champVersionsRow.holds Tryz.pinned (OpenSpec.ofChange Rows.champVersionsSpec) :=
  OpenClaim.holds_of_wide 4 Tryz.f4 rfl rfl rfl rfl rfl rfl rfl ⟨rfl, rfl, rfl, rfl, rfl⟩ rfl rfl rfl rfl rfl (by kernel_rfl) Tryz.func4 (by kernel_rfl)
    (of_decide_eq_true (by kernel_rfl)) (by unfold Func.isWrapper; first | (rw [if_pos (by decide +kernel)]; kernel_rfl) | (rw [if_neg (by decide +kernel)]; exact ⟨rfl, rfl⟩))
    (fun os started H enc _ => lifted os started H enc)

theorem proved : Rows.ChampVersionsSaid := over
#print axioms proved
end Go.Proofs.YtfmbikmpobieoaaGreat.champVersions
