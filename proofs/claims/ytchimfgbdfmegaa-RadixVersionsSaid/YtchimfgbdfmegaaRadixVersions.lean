/- RadixVersions: for every script of changes of any version the law returns true: each version, at the end, has just its own pairs, in the shape of the document. Conditions: none beyond the given statement. -/
import Derived.Test.YtchimfgbdfmegaaRows
import Derived.WalkKit
import Derived.ProofKit
import Derived.OpenShut
import Derived.ShutString
import Derived.ChangeOld
import Derived.Below
import Derived.BigQuiet
import Derived.Deep.RegionHeld3
import Derived.Carry
import Derived.Lib.SmallJoins
import Derived.Test.YtchimfgbdfmegaaHbb
namespace Go.Proofs.Ytchimfgbdfmegaa.radixVersions
open Go.ChangeShapes Go.WideShapes Go.ChangeAt Go.RowKit Go.Joins Go.Lib
open Go.ChangeMaps (open_string shut_string)
set_option linter.unusedVariables false
set_option linter.unusedSimpArgs false
set_option linter.unnecessarySimpa false
set_option maxRecDepth 100000

theorem own : ownKnob Try.prog.godebug = none := by kernel_rfl
theorem laidOut : laidOutB Try.prog = true := by kernel_rfl
theorem keep2v {w w' : World} {g5 g6 i j : Nat} {d e : Value} (h : w.cell? ⟨g5, i, none⟩ = some d ∧ w.cell? ⟨g6, j, none⟩ = some e) (hb : Below w.heap.size w w') :
    w'.cell? ⟨g5, i, none⟩ = some d ∧ w'.cell? ⟨g6, j, none⟩ = some e := by
  obtain ⟨h4, h5⟩ := h
  exact ⟨(hb.cell (World.block_lt_of_cell? w _ h4)).trans h4, (hb.cell (World.block_lt_of_cell? w _ h5)).trans h5⟩
theorem keep3v {w w' : World} {g5 g6 i : Nat} {d e f : Value} (h : w.cell? ⟨g5, i, none⟩ = some d ∧ w.cell? ⟨g6, 0, none⟩ = some e ∧ w.cell? ⟨g6, 1, none⟩ = some f) (hb : Below w.heap.size w w') :
    w'.cell? ⟨g5, i, none⟩ = some d ∧ w'.cell? ⟨g6, 0, none⟩ = some e ∧ w'.cell? ⟨g6, 1, none⟩ = some f := by
  obtain ⟨h4, h5, h6⟩ := h
  exact ⟨(hb.cell (World.block_lt_of_cell? w _ h4)).trans h4, (hb.cell (World.block_lt_of_cell? w _ h5)).trans h5, (hb.cell (World.block_lt_of_cell? w _ h6)).trans h6⟩
/-- what is known of the versions' pairs -/
def VerP (n : Nat) (vs : List Ver) : Prop := ∀ e ∈ vs, e.ps.length ≤ n
theorem keepS {w w' : World} {g6 K N10 : Nat} {a b c : Value} (h : w.cell? ⟨g6, K, none⟩ = some a ∧ w.cell? ⟨N10, 0, none⟩ = some b ∧ w.cell? ⟨N10, 1, none⟩ = some c) (hb : Below w.heap.size w w') :
    w'.cell? ⟨g6, K, none⟩ = some a ∧ w'.cell? ⟨N10, 0, none⟩ = some b ∧ w'.cell? ⟨N10, 1, none⟩ = some c :=
  ⟨(hb.cell (World.block_lt_of_cell? w _ h.1)).trans h.1, (hb.cell (World.block_lt_of_cell? w _ h.2.1)).trans h.2.1, (hb.cell (World.block_lt_of_cell? w _ h.2.2)).trans h.2.2⟩
noncomputable def vers16 : Code := (Try.f5.body.bind (fromRegion 16)).getD .skip
set_option maxHeartbeats 8000000 in
theorem vers16_any (post : Ending → World → Prop) (w0 w : World) (v5 v6 : Value) (vs : List Ver)
    (hB0 : Below w0.heap.size w0 w) (hV : VersR w0.heap.size w v5 v6 vs) (hP : VerP 40 vs) (hl : vs.length ≤ 41) (hpost : ∀ w', Below w0.heap.size w0 w' → post (.returned (.bool true)) w') (x0 x1 x2 x5 x6 x7 x8 x9 x10 x11 x12 x13 x14 x15 x16 x17 x18 x19 x20 x21 x22 x23 x24 x25 x26 x27 x28 x29 x30 x31 x32 x33 x34 x35 x36 x37 x38 x39 x40 x41 x42 x43 x44 x45 x46 x47 x48 x49 x50 x51 x52 x53 x54 x55 x56 x57 x58 x59 x60 x61 x62 x63 x64 x65 x66 x67 x68 x69 x70 x71 x72 x73 x74 x75 x76 x77 x78 x79 x80 x81 x82 x83 x84 x85 x86 x87 x88 x89 x90 x91 x92 x93 x94 x95 x96 x97 x98 x99 x100 x101 x102 x103 : Value) :
    Code.wp Try.prog vers16 (bodyPost Try.prog Try.f5 post) ⟨#[x0, x1, x2, v5, v6, x5, x6, x7, x8, x9, x10, x11, x12, x13, x14, x15, x16, x17, x18, x19, x20, x21, x22, x23, x24, x25, x26, x27, x28, x29, x30, x31, x32, x33, x34, x35, x36, x37, x38, x39, x40, x41, x42, x43, x44, x45, x46, x47, x48, x49, x50, x51, x52, x53, x54, x55, x56, x57, x58, x59, x60, x61, x62, x63, x64, x65, x66, x67, x68, x69, x70, x71, x72, x73, x74, x75, x76, x77, x78, x79, x80, x81, x82, x83, x84, x85, x86, x87, x88, x89, x90, x91, x92, x93, x94, x95, x96, x97, x98, x99, x100, x101, x102, x103], []⟩ w := by
  obtain ⟨A5, c5, rfl⟩ := own_formN hV.r5
  obtain ⟨A6, c6, rfl⟩ := own_formN hV.r6
  obtain ⟨NV, hNV⟩ : ∃ NV, NV = vs.length := ⟨_, rfl⟩
  have e5 : (vs.map (·.b)).length = NV := by rw [List.length_map, hNV]
  have e6 : (vs.map (·.v)).length = NV := by rw [List.length_map, hNV]
  rw [e5] at hV ⊢
  rw [e6] at hV ⊢
  rw [← hNV] at hl
  have HPo := Lib.hid hpost
  have HPs := Lib.hid hP
  have HNV := Lib.hid hNV
  have HE5 := Lib.hid e5
  have HE6 := Lib.hid e6
  clear hpost hP hNV e5 e6
  simp only []
  conv => arg 2; whnf
  go_wp2_with fail
  go_loopw [90] (fun vi wr => ∃ j : Nat, j ≤ NV ∧ vi = .int .i64 j ∧ VersR w0.heap.size wr (.slice A5 NV c5) (.slice A6 NV c6) vs ∧ Below w0.heap.size w0 wr) (fun vi wr => NV - (RowKit.intOf vi).toNat)
  case atStart => exact ⟨0, by omega, rfl, hV, hB0⟩
  case round =>
    clear hV hB0
    obtain ⟨j, hj, rfl, hV, hB⟩ := hrel
    by_cases hlt : j < NV
    · have hjv : j < vs.length := by rw [← HNV.out]; exact hlt
      obtain ⟨g5, c5', e5, z5⟩ := row_at hV.r5 j (by rw [HE5.out]; exact hlt) (at0 vs[j].b) (by simp [kcs, hjv])
      obtain ⟨g6, c6', e6, z6⟩ := row_at hV.r6 j (by rw [HE6.out]; exact hlt) vs[j].v (by simp [hjv])
      simp only [Value.slice.injEq] at e5 e6
      obtain ⟨rfl, -, rfl⟩ := e5
      obtain ⟨rfl, -, rfl⟩ := e6
      have hTk := hV.eT (vs[j].b, vs[j].ps) (List.mem_map.2 ⟨vs[j], List.getElem_mem _, rfl⟩)
      have hLk := hV.eL (vs[j].v, vs[j].ps) (List.mem_map.2 ⟨vs[j], List.getElem_mem _, rfl⟩)
      have hlk := HPs.out vs[j] (List.getElem_mem _)
      generalize vs[j].b = bk at *
      generalize vs[j].v = vk at *
      generalize vs[j].ps = pk at *
      obtain ⟨Ak, ck, evk, hRk, hck⟩ := OwnR.rdc hLk
      simp only at evk hTk hLk hck
      subst evk
      have kt := fun w' (hw : Below wr.heap.size wr w') => tree_list (hTk.below hw).pw Ak ck (by omega) (hRk.below hw) hck
      have L1 : (j : Int) < (NV : Int) := by omega
      have L2 : IntKind.i64.wrap ((j : Int) + 1) = ((j + 1 : Nat) : Int) := by rw [IntWalk.i64_in _ (by omega)]; omega
      simp only [at0] at z5 kt
      clear hTk hLk hRk
      go_upto_region 19 with (fail)
      have hS0 : (fun w' : World => w'.cell? ⟨g5, j, none⟩ = some (.pointer (some ⟨bk, 0, none⟩)) ∧ w'.cell? ⟨g6, j, none⟩ = some (.slice Ak pk.length ck)) wr.drew := ⟨z5, z6⟩
      have hdr : Below wr.heap.size wr wr.drew := (Below.refl _ wr).drew
      have hV := hV.below hdr
      have hB := hB.drew
      clear z5 z6
      refine wp_region_held_drew (S := fun w' : World => w'.cell? ⟨g5, j, none⟩ = some (.pointer (some ⟨bk, 0, none⟩)) ∧ w'.cell? ⟨g6, j, none⟩ = some (.slice Ak pk.length ck)) (by kernel_rfl) hS0 ?_
      intro hS
      refine wpAnyH_take (i := 0) (oi := { dst := some 93, op := Go.Op.move (Go.Operand.tmp 3), type := 49, pos := "law.go:127", after := #[], guard := none }) (v := .slice (some ⟨g5, 0, none⟩) NV c5) rfl (by kernel_rfl) (by kernel_rfl) (by kernel_rfl) (fun _ _ _ h => h) (Or.inl ⟨by rfl, fun w hSw => ?_⟩) hS ?_
      · go_split_ands
        go_simp
      try simp only [Act.put, List.setIfInBounds_toArray, List.set_cons_zero, List.set_cons_succ]
      refine wpAnyH_take (i := 1) (oi := { dst := some 94, op := Go.Op.move (Go.Operand.tmp 13), type := 3, pos := "law.go:127", after := #[], guard := none }) (v := .int .i64 j) rfl (by kernel_rfl) (by kernel_rfl) (by kernel_rfl) (fun _ _ _ h => h) (Or.inl ⟨by rfl, fun w hSw => ?_⟩) hS ?_
      · go_split_ands
        go_simp
      try simp only [Act.put, List.setIfInBounds_toArray, List.set_cons_zero, List.set_cons_succ]
      refine wpAnyH_take (i := 2) (oi := { dst := some 95, op := Go.Op.indexAddr 49 (Go.Operand.tmp 93) (Go.Operand.tmp 94), type := 0, pos := "law.go:127", after := #[{ on := 0, ground := Go.Ground.data }, { on := 1, ground := Go.Ground.data }], guard := none }) (v := .pointer (some ⟨g5, j, none⟩)) rfl (by kernel_rfl) (by kernel_rfl) (by kernel_rfl) (fun _ _ _ h => h) (Or.inl ⟨by rfl, fun w hSw => ?_⟩) hS ?_
      · go_split_ands
        go_simp
      try simp only [Act.put, List.setIfInBounds_toArray, List.set_cons_zero, List.set_cons_succ]
      refine wpAnyH_take (i := 3) (oi := { dst := some 96, op := Go.Op.load 30 (Go.Operand.tmp 95), type := 30, pos := "law.go:127", after := #[{ on := 2, ground := Go.Ground.data }], guard := none }) (v := .pointer (some ⟨bk, 0, none⟩)) rfl (by kernel_rfl) (by kernel_rfl) (by kernel_rfl) (fun _ _ _ h => h) (Or.inl ⟨by rfl, fun w hSw => ?_⟩) hS ?_
      · go_split_ands
        go_simp
      try simp only [Act.put, List.setIfInBounds_toArray, List.set_cons_zero, List.set_cons_succ]
      refine wpAnyH_take (i := 4) (oi := { dst := some 97, op := Go.Op.move (Go.Operand.tmp 4), type := 50, pos := "law.go:127", after := #[], guard := none }) (v := .slice (some ⟨g6, 0, none⟩) NV c6) rfl (by kernel_rfl) (by kernel_rfl) (by kernel_rfl) (fun _ _ _ h => h) (Or.inl ⟨by rfl, fun w hSw => ?_⟩) hS ?_
      · go_split_ands
        go_simp
      try simp only [Act.put, List.setIfInBounds_toArray, List.set_cons_zero, List.set_cons_succ]
      refine wpAnyH_take (i := 5) (oi := { dst := some 98, op := Go.Op.move (Go.Operand.tmp 13), type := 3, pos := "law.go:127", after := #[], guard := none }) (v := .int .i64 j) rfl (by kernel_rfl) (by kernel_rfl) (by kernel_rfl) (fun _ _ _ h => h) (Or.inl ⟨by rfl, fun w hSw => ?_⟩) hS ?_
      · go_split_ands
        go_simp
      try simp only [Act.put, List.setIfInBounds_toArray, List.set_cons_zero, List.set_cons_succ]
      refine wpAnyH_take (i := 6) (oi := { dst := some 99, op := Go.Op.indexAddr 50 (Go.Operand.tmp 97) (Go.Operand.tmp 98), type := 0, pos := "law.go:127", after := #[{ on := 4, ground := Go.Ground.data }, { on := 5, ground := Go.Ground.data }], guard := none }) (v := .pointer (some ⟨g6, j, none⟩)) rfl (by kernel_rfl) (by kernel_rfl) (by kernel_rfl) (fun _ _ _ h => h) (Or.inl ⟨by rfl, fun w hSw => ?_⟩) hS ?_
      · go_split_ands
        go_simp
      try simp only [Act.put, List.setIfInBounds_toArray, List.set_cons_zero, List.set_cons_succ]
      refine wpAnyH_take (i := 7) (oi := { dst := some 100, op := Go.Op.load 32 (Go.Operand.tmp 99), type := 32, pos := "law.go:127", after := #[{ on := 6, ground := Go.Ground.data }], guard := none }) (v := .slice Ak pk.length ck) rfl (by kernel_rfl) (by kernel_rfl) (by kernel_rfl) (fun _ _ _ h => h) (Or.inl ⟨by rfl, fun w hSw => ?_⟩) hS ?_
      · go_split_ands
        go_simp
      try simp only [Act.put, List.setIfInBounds_toArray, List.set_cons_zero, List.set_cons_succ]
      refine wpAnyH_ready (rs := [8]) (by kernel_rfl) (by simp) ?_
      refine AllReadyH.cons (o := { dst := some 101, op := Go.Op.call { callee := Go.Callee.value (Go.Operand.func 23), args := #[Go.Operand.tmp 96, Go.Operand.tmp 100], argTypes := #[30, 32] }, type := 4, pos := "law.go:127", after := #[{ on := 3, ground := Go.Ground.data }, { on := 7, ground := Go.Ground.data }], guard := none }) rfl (fun K hK => ?_) AllReadyH.nil
      go_simp
      refine (kt _ hdr).mono ?_
      rintro e wA ⟨rfl, hBA⟩
      go_wp2_with fail
      have hSn := keep2v hS hBA
      refine hK.out _ _ hSn (fun _ => ?_)
      clear hK K hS
      try simp only [Act.put, List.setIfInBounds_toArray, List.set_cons_zero, List.set_cons_succ]
      have hS := hSn
      clear hSn
      have hB := hB.trans (hBA.mono hB.size)
      have hV := hV.below hBA
      clear hBA
      refine wpAnyH_take (i := 9) (oi := { dst := some 102, op := Go.Op.unOp Go.UnOp.not 4 (Go.Operand.tmp 101), type := 4, pos := "law.go:127", after := #[{ on := 8, ground := Go.Ground.data }], guard := none }) (v := .bool false) rfl (by kernel_rfl) (by kernel_rfl) (by kernel_rfl) (fun _ _ _ h => h) (Or.inl ⟨by rfl, fun w hSw => ?_⟩) hS ?_
      · go_split_ands
        go_simp
      try simp only [Act.put, List.setIfInBounds_toArray, List.set_cons_zero, List.set_cons_succ]
      refine wpAnyH_done (by kernel_rfl) ?_ _

      clear hS kt hdr
      go_wp2_with fail
      exact ⟨⟨j + 1, by omega, by go_num, hV, hB⟩, by simp [RowKit.intOf]; omega⟩
    · obtain rfl : j = NV := by omega
      have G : ¬ ((j : Int) < (j : Int)) := by omega
      go_wp2_with fail
      exact HPo.out _ hB
set_option maxHeartbeats 32000000 in
theorem walk (a1 : Option Addr) (len1 cap1 : Nat) (w : World) (hA : ArgA w a1 len1 cap1) :
    Calls Try.prog 5 #[.slice a1 len1 cap1] w fun e w' => e = .returned (.bool true) ∧ Below w.heap.size w w' := by
  obtain ⟨i30, hi30, hy300, hy301, hy302⟩ := info_parts info30
  obtain ⟨i32, hi32, hy320, hy321, hy322⟩ := info_parts infoT6
  have hl1 := hA.len_le
  have HA := Lib.hid hA
  clear hA
  go_enter Try.func5, Try.ntmps5
  go_wp2_with fail
  refine (awakeR_any _).mono ?_
  rintro e w1 ⟨rfl, hB⟩
  go_wp2_with fail
  refine (empty_any w1).mono ?_
  rintro e w2 ⟨b, rfl, hT0, hB2⟩
  have hT := PW.empty hT0
  have hB := hB.trans (hB2.mono hB.size)
  clear hB2 hT0
  try unfold at0
  go_upto_region 4 with (fail)
  have hBl1 := (Below.refl _ w2).alloc (Nat.le_refl _) (.cells #[.pointer (some ⟨b, 0, none⟩)] 30)
  have hBl2 := (Below.refl _ (w2.alloc (.cells #[.pointer (some ⟨b, 0, none⟩)] 30))).alloc (Nat.le_refl _) (.cells #[.slice none 0 0] 32)
  have hBl := hBl1.trans (hBl2.mono hBl1.size)
  have hn5 := (Blk.new w2 30 #[.pointer (some ⟨b, 0, none⟩)]).below hBl2
  have hn6 := Blk.new (w2.alloc (.cells #[.pointer (some ⟨b, 0, none⟩)] 30)) 32 #[.slice none 0 0]
  have es : (w2.alloc (.cells #[.pointer (some ⟨b, 0, none⟩)] 30)).heap.size = w2.heap.size + 1 := by simp
  rw [es] at hn6
  have hT5 : TX (atBlk (.slice (some ⟨w2.heap.size, 0, none⟩) 1 1)) w2 b [] := hT.tx fun x hx => .inl (by unfold atBlk at hx; simp [Value.ownBlock] at hx; omega)
  have hV : VersR w.heap.size ((w2.alloc (.cells #[.pointer (some ⟨b, 0, none⟩)] 30)).alloc (.cells #[.slice none 0 0] 32)) (.slice (some ⟨w2.heap.size, 0, none⟩) 1 1) (.slice (some ⟨w2.heap.size + 1, 0, none⟩) 1 1) [⟨b, .slice none 0 0, []⟩] :=
    ⟨⟨rfl, .inr ⟨_, 1, _, rfl, hB.size, hn5, Nat.le_refl _, by unfold maxLen; omega, rfl, rfl⟩⟩, ⟨rfl, .inr ⟨_, 1, _, rfl, Nat.le_succ_of_le hB.size, hn6, Nat.le_refl _, by unfold maxLen; omega, rfl, rfl⟩⟩,
     fun e he => by simp at he; subst he; exact hT5.below hBl, fun e he => by simp at he; subst he; exact OwnR.nil _ _, Nat.le_trans hB.size hBl.size⟩
  have hB := hB.trans (hBl.mono hB.size)
  clear hT hBl1 hBl2 hBl hn5 hn6 es hT5
  generalize (w2.alloc (.cells #[.pointer (some ⟨b, 0, none⟩)] 30)).alloc (.cells #[.slice none 0 0] 32) = W3 at *
  obtain ⟨N6, hN6⟩ : ∃ N6, N6 = w2.heap.size + 1 := ⟨_, rfl⟩
  rw [← hN6] at hV ⊢
  clear hN6
  generalize w2.heap.size = N5 at *
  go_wp2_with fail
  go_loopw [3, 4, 21] (fun v5 v6 vi wr => ∃ (j : Nat) (vs : List Ver), j ≤ len1 ∧ j ≤ 40 ∧ vs.length = j + 1 ∧ vi = .int .i64 j ∧ VersR w.heap.size wr v5 v6 vs ∧ VerP j vs ∧ Below w.heap.size w wr) (fun v5 v6 vi wr => len1 - (RowKit.intOf vi).toNat)
  case atStart => exact ⟨0, _, by omega, by omega, rfl, rfl, hV, fun e he => by simp at he; subst he; simp, hB⟩
  case round =>
    clear hV hB
    obtain ⟨j, vs, hj, hj40, hvl', rfl, hV, hPs, hB⟩ := hrel
    have hvl := Lib.hid hvl'
    have HPs := Lib.hid hPs
    by_cases hlt : j < len1
    · obtain ⟨x, dd, ka, q, rfl, hdd, hka, c0, c1, c2, c3⟩ := HA.out.at hB j hlt
      have L1 : (j : Int) < (len1 : Int) := by omega
      have L2 : IntKind.i64.wrap ((j : Int) + 1) = ((j + 1 : Nat) : Int) := by rw [IntWalk.i64_in _ (by unfold maxLen at hl1; omega)]; omega
      go_upto_region 7 with (fail)
      have hBl := (Below.refl _ wr).alloc (Nat.le_refl _) (.cells #[.int .u8 dd, .string q.1, .string q.2, .int .u8 ka] 36)
      have hAct := Blk.new wr 36 #[.int .u8 dd, .string q.1, .string q.2, .int .u8 ka]
      have hB := hB.trans (hBl.mono hB.size)
      have hV := hV.below hBl
      clear c0 c1 c2 c3 hBl
      generalize wr.alloc (.cells #[.int .u8 dd, .string q.1, .string q.2, .int .u8 ka] 36) = W1 at *
      generalize wr.heap.size = N8 at *
      by_cases h40 : j < 40
      · have G : ¬ ((40 : Int) ≤ (j : Int)) := by omega
        obtain ⟨NV, hNV⟩ : ∃ NV, NV = j + 1 := ⟨_, rfl⟩
        obtain ⟨K, hKe⟩ : ∃ K, K = ka % NV := ⟨_, rfl⟩
        have hKlt : K < NV := by rw [hKe]; exact Nat.mod_lt _ (by omega)
        have hNV41 : NV ≤ 41 := by omega
        have M1 : (ka : Int) % (NV : Int) = (K : Int) := by rw [hKe]; omega
        have M2 : ¬ ((NV : Int) = 0) := by omega
        have M3 : IntKind.i64.wrap (ka : Int) = (ka : Int) := by rw [IntWalk.i64_in _ (by omega)]
        have M4 : IntKind.i64.wrap (K : Int) = (K : Int) := by rw [IntWalk.i64_in _ (by omega)]
        have M5 : (K : Int) < (NV : Int) := by omega
        have hKv : K < vs.length := by omega
        have e5 : (vs.map (·.b)).length = NV := by rw [List.length_map]; omega
        have e6 : (vs.map (·.v)).length = NV := by rw [List.length_map]; omega
        obtain ⟨g5, c5, ev5, z5⟩ := row_at hV.r5 K (by rw [e5]; exact hKlt) (at0 vs[K].b) (by simp [kcs, hKv])
        obtain ⟨g6, c6, ev6, z60⟩ := row_at hV.r6 K (by rw [e6]; exact hKlt) vs[K].v (by simp [hKv])
        rw [e5] at ev5
        rw [e6] at ev6
        subst ev5 ev6
        have hTk := hV.eT (vs[K].b, vs[K].ps) (List.mem_map.2 ⟨vs[K], List.getElem_mem _, rfl⟩)
        have hLk := hV.eL (vs[K].v, vs[K].ps) (List.mem_map.2 ⟨vs[K], List.getElem_mem _, rfl⟩)
        have hlk := hPs vs[K] (List.getElem_mem _)
        have hlsK : (vs.map (·.v))[K]? = some vs[K].v := by simp [hKv]
        have husK : (vs[K].v, vs[K].ps) ∈ vs.map fun e => (e.v, e.ps) := List.mem_map.2 ⟨vs[K], List.getElem_mem _, rfl⟩
        obtain ⟨Ak, ck, evk, -⟩ := OwnR.rd hLk
        simp only at evk
        rw [evk] at hlsK husK
        have hzk := hTk.pw.keys
        simp only at hzk
        generalize vs[K].b = bk at *
        generalize vs[K].ps = pk at *
        obtain ⟨bs, hbs⟩ : ∃ bs, bs = vs.map (·.b) := ⟨_, rfl⟩
        obtain ⟨ls, hls⟩ : ∃ ls, ls = vs.map (·.v) := ⟨_, rfl⟩
        obtain ⟨ts, hts⟩ : ∃ ts, ts = vs.map fun e => (e.b, e.ps) := ⟨_, rfl⟩
        obtain ⟨us, hus⟩ : ∃ us, us = vs.map fun e => (e.v, e.ps) := ⟨_, rfl⟩
        have HSN := Lib.hid (fun (v : Value) (b : Nat) (ps : List Pr) (W : World) (gn5 cn5 gn6 cn6 : Nat) (h : VR w.heap.size W (.slice (some ⟨gn5, 0, none⟩) (NV + 1) cn5) (.slice (some ⟨gn6, 0, none⟩) (NV + 1) cn6) (bs ++ [b]) (ls ++ [v]) (ts ++ [(b, ps)]) (us ++ [(v, ps)])) => VersR.snoc (e := ⟨b, v, ps⟩) (vs := vs) (by rw [← hbs, ← hls, ← hts, ← hus]; exact h))
        have hV : VR w.heap.size W1 (.slice (some ⟨g5, 0, none⟩) NV c5) (.slice (some ⟨g6, 0, none⟩) NV c6) bs ls ts us := by rw [hbs, hls, hts, hus]; exact hV
        rw [← hbs] at e5
        rw [← hls] at e6 hlsK
        rw [← hus] at husK
        have HBL := Lib.hid e5
        have HLL := Lib.hid e6
        have HLK := Lib.hid hlsK
        have HUK := Lib.hid husK
        have hTk0 := Lib.hid hTk
        unfold at0 at z5
        clear hNV hKe hbs hls hts hus e5 e6 hlsK husK hTk hLk evk z60 hPs hvl' hKv
        have d0 : W1.cell? ⟨N8, 0, none⟩ = some (.int .u8 dd) := hAct.cell 0
        have d1 : W1.cell? ⟨N8, 1, none⟩ = some (.string q.1) := hAct.cell 1
        have d2 : W1.cell? ⟨N8, 2, none⟩ = some (.string q.2) := hAct.cell 2
        have d3 : W1.cell? ⟨N8, 3, none⟩ = some (.int .u8 ka) := hAct.cell 3
        have kfew := few_any q.1 q.2 W1
        obtain ⟨p, hp⟩ : ∃ p : Pr, p = (cut40 q.1, cut40 q.2) := ⟨_, rfl⟩
        have e1 : cut40 q.1 = p.1 := by rw [hp]
        have e2 : cut40 q.2 = p.2 := by rw [hp]
        rw [e1, e2] at kfew
        have hp1 : p.1.size ≤ 40 := by rw [← e1]; exact cut40_size _
        have hp2 : p.2.size ≤ 40 := by rw [← e2]; exact cut40_size _
        clear hp e1 e2
        go_wp2_with fail
        refine kfew.mono ?_
        rintro e w3 ⟨rfl, hB3⟩
        clear kfew d1 d2 d3
        go_upto_region 10 with (fail)
        have hBl := hB3.alloc hB3.size (.cells #[.string p.1, .string p.2] 34)
        have hP10 := Blk.new w3 34 #[.string p.1, .string p.2]
        have hB := hB.trans (hBl.mono hB.size)
        have hV := hV.below hBl
        have hAct := hAct.below hBl
        have hTk := hTk0.out.below hBl
        have z5 := (hBl.cell (p := ⟨g5, K, none⟩) (World.block_lt_of_cell? _ _ z5)).trans z5
        clear hBl hB3 d0 hTk0
        generalize w3.alloc (.cells #[.string p.1, .string p.2] 34) = W4 at *
        generalize w3.heap.size = N10 at *
        have d0 : W4.cell? ⟨N8, 0, none⟩ = some (.int .u8 dd) := hAct.cell 0
        have kd := fun w' (hw : Below W4.heap.size W4 w') => drop_X (w := w') (hTk.below hw) (fun x hx => Nat.lt_of_lt_of_le (hV.xlt x hx) hw.size) (.pointer none) p.1 (.inl rfl) hp1
        have kp := fun w' (hw : Below W4.heap.size W4 w') => put_X (w := w') (hTk.below hw) (fun x hx => Nat.lt_of_lt_of_le (hV.xlt x hx) hw.size) (.pointer none) p.1 p.2 (.inl rfl) hp1 hp2
        simp only [at0] at kd kp
        have hRk : ∀ (W' : World) {v5 v6 : Value} {bs' : List Nat} {ls' : List Value} {ts' : List (Nat × List Pr)}, VR w.heap.size W' v5 v6 bs' ls' ts' us → Rd W' Ak pk := fun W' _ _ _ _ _ h => by
          obtain ⟨A', c', e', hr'⟩ := OwnR.rd (h.eL _ HUK.out)
          simp only [Value.slice.injEq] at e'
          obtain ⟨rfl, -⟩ := e'
          exact hr'
        clear hAct hTk
        by_cases h3 : dd % 4 = 3
        · have D3 := (dmod hdd).1 h3
          go_upto_region 11 with (fail)
          have hS0 : (fun w' : World => w'.cell? ⟨g5, K, none⟩ = some (.pointer (some ⟨bk, 0, none⟩)) ∧ w'.cell? ⟨N10, 0, none⟩ = some (.string p.1) ∧ w'.cell? ⟨N10, 1, none⟩ = some (.string p.2)) W4.drew := ⟨z5, hP10.cell 0, hP10.cell 1⟩
          have hdr : Below W4.heap.size W4 W4.drew := (Below.refl _ W4).drew
          have hV := hV.below hdr
          have hP10 := hP10.below hdr
          have hB := hB.drew
          clear z5
          refine wp_region_held_drew (S := fun w' : World => w'.cell? ⟨g5, K, none⟩ = some (.pointer (some ⟨bk, 0, none⟩)) ∧ w'.cell? ⟨N10, 0, none⟩ = some (.string p.1) ∧ w'.cell? ⟨N10, 1, none⟩ = some (.string p.2)) (by kernel_rfl) hS0 ?_
          intro hS
          refine wpAnyH_take (i := 0) (oi := { dst := some 42, op := Go.Op.move (Go.Operand.tmp 3), type := 49, pos := "law.go:119", after := #[], guard := none }) (v := .slice (some ⟨g5, 0, none⟩) NV c5) rfl (by kernel_rfl) (by kernel_rfl) (by kernel_rfl) (fun _ _ _ h => h) (Or.inl ⟨by rfl, fun w hSw => ?_⟩) hS ?_
          · go_split_ands
            go_simp
          try simp only [Act.put, List.setIfInBounds_toArray, List.set_cons_zero, List.set_cons_succ]
          refine wpAnyH_take (i := 1) (oi := { dst := some 43, op := Go.Op.move (Go.Operand.tmp 7), type := 3, pos := "law.go:119", after := #[], guard := none }) (v := .int .i64 K) rfl (by kernel_rfl) (by kernel_rfl) (by kernel_rfl) (fun _ _ _ h => h) (Or.inl ⟨by rfl, fun w hSw => ?_⟩) hS ?_
          · go_split_ands
            go_simp
          try simp only [Act.put, List.setIfInBounds_toArray, List.set_cons_zero, List.set_cons_succ]
          refine wpAnyH_take (i := 2) (oi := { dst := some 44, op := Go.Op.indexAddr 49 (Go.Operand.tmp 42) (Go.Operand.tmp 43), type := 0, pos := "law.go:119", after := #[{ on := 0, ground := Go.Ground.data }, { on := 1, ground := Go.Ground.data }], guard := none }) (v := .pointer (some ⟨g5, K, none⟩)) rfl (by kernel_rfl) (by kernel_rfl) (by kernel_rfl) (fun _ _ _ h => h) (Or.inl ⟨by rfl, fun w hSw => ?_⟩) hS ?_
          · go_split_ands
            go_simp
          try simp only [Act.put, List.setIfInBounds_toArray, List.set_cons_zero, List.set_cons_succ]
          refine wpAnyH_take (i := 3) (oi := { dst := some 45, op := Go.Op.load 30 (Go.Operand.tmp 44), type := 30, pos := "law.go:119", after := #[{ on := 2, ground := Go.Ground.data }], guard := none }) (v := .pointer (some ⟨bk, 0, none⟩)) rfl (by kernel_rfl) (by kernel_rfl) (by kernel_rfl) (fun _ _ _ h => h) (Or.inl ⟨by rfl, fun w hSw => ?_⟩) hS ?_
          · go_split_ands
            go_simp
          try simp only [Act.put, List.setIfInBounds_toArray, List.set_cons_zero, List.set_cons_succ]
          refine wpAnyH_take (i := 4) (oi := { dst := some 46, op := Go.Op.fieldAddr 34 (Go.Operand.tmp 8) 0, type := 0, pos := "law.go:119", after := #[], guard := none }) (v := .pointer (some ⟨N10, 0, none⟩)) rfl (by kernel_rfl) (by kernel_rfl) (by kernel_rfl) (fun _ _ _ h => h) (Or.inl ⟨by rfl, fun w hSw => ?_⟩) hS ?_
          · go_split_ands
            go_simp
          try simp only [Act.put, List.setIfInBounds_toArray, List.set_cons_zero, List.set_cons_succ]
          refine wpAnyH_take (i := 5) (oi := { dst := some 47, op := Go.Op.load 9 (Go.Operand.tmp 46), type := 9, pos := "law.go:119", after := #[{ on := 4, ground := Go.Ground.data }], guard := none }) (v := .string p.1) rfl (by kernel_rfl) (by kernel_rfl) (by kernel_rfl) (fun _ _ _ h => h) (Or.inl ⟨by rfl, fun w hSw => ?_⟩) hS ?_
          · go_split_ands
            go_simp
          try simp only [Act.put, List.setIfInBounds_toArray, List.set_cons_zero, List.set_cons_succ]
          refine wpAnyH_ready (rs := [6]) (by kernel_rfl) (by simp) ?_
          refine AllReadyH.cons (o := { dst := some 48, op := Go.Op.call { callee := Go.Callee.value (Go.Operand.func 18), args := #[Go.Operand.const (Go.Value.pointer none), Go.Operand.tmp 45, Go.Operand.tmp 47], argTypes := #[56, 30, 9] }, type := 40, pos := "law.go:119", after := #[{ on := 3, ground := Go.Ground.data }, { on := 5, ground := Go.Ground.data }], guard := none }) rfl (fun K hK => ?_) AllReadyH.nil
          go_simp
          refine (kd _ hdr).mono ?_
          rintro e wA ⟨b1, rfl, -, hT1, hBA⟩
          go_wp2_with fail
          have hSn := keep3v hS hBA
          refine hK.out _ _ hSn (fun _ => ?_)
          clear hK K hS
          try simp only [Act.put, List.setIfInBounds_toArray, List.set_cons_zero, List.set_cons_succ]
          have hS := hSn
          clear hSn
          have hB := hB.trans (hBA.mono hB.size)
          have hV := hV.below hBA
          have hP10 := hP10.below hBA
          clear hBA
          refine wpAnyH_take (i := 7) (oi := { dst := some 41, op := Go.Op.move (Go.Operand.tmp 48), type := 40, pos := "law.go:119", after := #[{ on := 6, ground := Go.Ground.data }], guard := none }) (v := .tuple #[.pointer (some ⟨b1, 0, none⟩), .bool (getR pk p.1).isSome]) rfl (by kernel_rfl) (by kernel_rfl) (by kernel_rfl) (fun _ _ _ h => h) (Or.inl ⟨by rfl, fun w hSw => ?_⟩) hS ?_
          · go_split_ands
            go_simp
          try simp only [Act.put, List.setIfInBounds_toArray, List.set_cons_zero, List.set_cons_succ]
          refine wpAnyH_take (i := 8) (oi := { dst := some 49, op := Go.Op.extract (Go.Operand.tmp 41) 0, type := 30, pos := "law.go:119", after := #[{ on := 7, ground := Go.Ground.data }], guard := none }) (v := .pointer (some ⟨b1, 0, none⟩)) rfl (by kernel_rfl) (by kernel_rfl) (by kernel_rfl) (fun _ _ _ h => h) (Or.inl ⟨by rfl, fun w hSw => ?_⟩) hS ?_
          · go_split_ands
            go_simp
          try simp only [Act.put, List.setIfInBounds_toArray, List.set_cons_zero, List.set_cons_succ]
          refine wpAnyH_take (i := 9) (oi := { dst := some 50, op := Go.Op.extract (Go.Operand.tmp 41) 1, type := 4, pos := "law.go:119", after := #[{ on := 7, ground := Go.Ground.data }, { on := 10, ground := Go.Ground.gcOnly Go.Departure.lateStores }], guard := none }) (v := .bool (getR pk p.1).isSome) rfl (by kernel_rfl) (by kernel_rfl) (by kernel_rfl) (fun _ _ _ h => h) (Or.inl ⟨by rfl, fun w hSw => ?_⟩) hS ?_
          · go_split_ands
            go_simp
          try simp only [Act.put, List.setIfInBounds_toArray, List.set_cons_zero, List.set_cons_succ]
          refine wpAnyH_take (i := 10) (oi := { dst := some 9, op := Go.Op.assign (Go.Operand.tmp 49), type := 30, pos := "law.go:119", after := #[{ on := 8, ground := Go.Ground.data }, { on := 6, ground := Go.Ground.chain }, { on := 0, ground := Go.Ground.phase }, { on := 1, ground := Go.Ground.phase }, { on := 2, ground := Go.Ground.phase }, { on := 3, ground := Go.Ground.phase }, { on := 4, ground := Go.Ground.phase }, { on := 5, ground := Go.Ground.phase }, { on := 6, ground := Go.Ground.phase }, { on := 7, ground := Go.Ground.phase }, { on := 8, ground := Go.Ground.phase }, { on := 9, ground := Go.Ground.textOnly Go.Departure.lateStores }], guard := none }) (v := .pointer (some ⟨b1, 0, none⟩)) rfl (by kernel_rfl) (by kernel_rfl) (by kernel_rfl) (fun _ _ _ h => h) (Or.inl ⟨by rfl, fun w hSw => ?_⟩) hS ?_
          · go_split_ands
            go_simp
          try simp only [Act.put, List.setIfInBounds_toArray, List.set_cons_zero, List.set_cons_succ]
          refine wpAnyH_take (i := 11) (oi := { dst := some 10, op := Go.Op.assign (Go.Operand.tmp 50), type := 4, pos := "law.go:119", after := #[{ on := 9, ground := Go.Ground.data }, { on := 10, ground := Go.Ground.chain }, { on := 0, ground := Go.Ground.phase }, { on := 1, ground := Go.Ground.phase }, { on := 2, ground := Go.Ground.phase }, { on := 3, ground := Go.Ground.phase }, { on := 4, ground := Go.Ground.phase }, { on := 5, ground := Go.Ground.phase }, { on := 6, ground := Go.Ground.phase }, { on := 7, ground := Go.Ground.phase }, { on := 8, ground := Go.Ground.phase }, { on := 9, ground := Go.Ground.phase }, { on := 10, ground := Go.Ground.phase }], guard := none }) (v := .bool (getR pk p.1).isSome) rfl (by kernel_rfl) (by kernel_rfl) (by kernel_rfl) (fun _ _ _ h => h) (Or.inl ⟨by rfl, fun w hSw => ?_⟩) hS ?_
          · go_split_ands
            go_simp
          try simp only [Act.put, List.setIfInBounds_toArray, List.set_cons_zero, List.set_cons_succ]
          refine wpAnyH_done (by kernel_rfl) ?_ _
          clear hS kd kp hdr
          generalize (getR pk p.1).isSome = gb at *
          have hV := hV.addT hT1
          clear hT1
          obtain ⟨gx, cx, ex, z6⟩ := row_at hV.r6 K (by rw [HLL.out]; exact hKlt) (.slice Ak pk.length ck) HLK.out
          simp only [Value.slice.injEq, Option.some.injEq, Addr.mk.injEq, and_true] at ex
          obtain ⟨rfl, -⟩ := ex
          obtain ⟨W, hW⟩ : ∃ W, W = wA := ⟨_, rfl⟩
          subst hW
          go_upto_region 12 with (fail)
          refine wp_region_late (S := fun w' => w'.cell? ⟨g6, K, none⟩ = some (.slice Ak pk.length ck) ∧ w'.cell? ⟨N10, 0, none⟩ = some (.string p.1) ∧ w'.cell? ⟨N10, 1, none⟩ = some (.string p.2)) (st := 13) (by kernel_rfl) ?_
          have hS : (fun w' : World => w'.cell? ⟨g6, K, none⟩ = some (.slice Ak pk.length ck) ∧ w'.cell? ⟨N10, 0, none⟩ = some (.string p.1) ∧ w'.cell? ⟨N10, 1, none⟩ = some (.string p.2)) W.drew := ⟨z6, hP10.cell 0, hP10.cell 1⟩
          have hdr2 : Below W.heap.size W W.drew := (Below.refl _ W).drew
          have hV := hV.below hdr2
          have hP10 := hP10.below hdr2
          have hB := hB.drew
          clear hdr2
          generalize W.drew = Wd at *
          refine wpAnyL_take0 (i := 0) (oi := { dst := some 51, op := Go.Op.move (Go.Operand.tmp 3), type := 49, pos := "law.go:120", after := #[], guard := none }) (v := .slice (some ⟨g5, 0, none⟩) NV c5) rfl (by kernel_rfl) (by kernel_rfl) (by kernel_rfl) (by kernel_rfl) (fun _ _ _ h => h) hS (Or.inl ⟨by rfl, fun w hSw => ?_⟩) ?_
          · go_split_ands
            go_simp
          try simp only [Act.put, List.setIfInBounds_toArray, List.set_cons_zero, List.set_cons_succ]
          refine wpAnyL_take0 (i := 1) (oi := { dst := some 52, op := Go.Op.move (Go.Operand.tmp 9), type := 30, pos := "law.go:120", after := #[], guard := none }) (v := .pointer (some ⟨b1, 0, none⟩)) rfl (by kernel_rfl) (by kernel_rfl) (by kernel_rfl) (by kernel_rfl) (fun _ _ _ h => h) hS (Or.inl ⟨by rfl, fun w hSw => ?_⟩) ?_
          · go_split_ands
            go_simp
          try simp only [Act.put, List.setIfInBounds_toArray, List.set_cons_zero, List.set_cons_succ]
          refine wpAnyL_take0 (i := 4) (oi := { dst := some 55, op := Go.Op.move (Go.Operand.tmp 4), type := 50, pos := "law.go:120", after := #[], guard := none }) (v := .slice (some ⟨g6, 0, none⟩) NV c6) rfl (by kernel_rfl) (by kernel_rfl) (by kernel_rfl) (by kernel_rfl) (fun _ _ _ h => h) hS (Or.inl ⟨by rfl, fun w hSw => ?_⟩) ?_
          · go_split_ands
            go_simp
          try simp only [Act.put, List.setIfInBounds_toArray, List.set_cons_zero, List.set_cons_succ]
          refine wpAnyL_take0 (i := 5) (oi := { dst := some 56, op := Go.Op.move (Go.Operand.tmp 4), type := 50, pos := "law.go:120", after := #[], guard := none }) (v := .slice (some ⟨g6, 0, none⟩) NV c6) rfl (by kernel_rfl) (by kernel_rfl) (by kernel_rfl) (by kernel_rfl) (fun _ _ _ h => h) hS (Or.inl ⟨by rfl, fun w hSw => ?_⟩) ?_
          · go_split_ands
            go_simp
          try simp only [Act.put, List.setIfInBounds_toArray, List.set_cons_zero, List.set_cons_succ]
          refine wpAnyL_take0 (i := 6) (oi := { dst := some 57, op := Go.Op.move (Go.Operand.tmp 7), type := 3, pos := "law.go:120", after := #[], guard := none }) (v := .int .i64 K) rfl (by kernel_rfl) (by kernel_rfl) (by kernel_rfl) (by kernel_rfl) (fun _ _ _ h => h) hS (Or.inl ⟨by rfl, fun w hSw => ?_⟩) ?_
          · go_split_ands
            go_simp
          try simp only [Act.put, List.setIfInBounds_toArray, List.set_cons_zero, List.set_cons_succ]
          refine wpAnyL_take0 (i := 7) (oi := { dst := some 58, op := Go.Op.indexAddr 50 (Go.Operand.tmp 56) (Go.Operand.tmp 57), type := 0, pos := "law.go:120", after := #[{ on := 5, ground := Go.Ground.data }, { on := 6, ground := Go.Ground.data }], guard := none }) (v := .pointer (some ⟨g6, K, none⟩)) rfl (by kernel_rfl) (by kernel_rfl) (by kernel_rfl) (by kernel_rfl) (fun _ _ _ h => h) hS (Or.inl ⟨by rfl, fun w hSw => ?_⟩) ?_
          · go_split_ands
            go_simp
          try simp only [Act.put, List.setIfInBounds_toArray, List.set_cons_zero, List.set_cons_succ]
          refine wpAnyL_take2 (i := 8) (oi := { dst := some 59, op := Go.Op.load 32 (Go.Operand.tmp 58), type := 32, pos := "law.go:120", after := #[{ on := 7, ground := Go.Ground.data }], guard := none }) (v := .slice Ak pk.length ck) 11 rfl (by kernel_rfl) (by kernel_rfl) (by kernel_rfl) (by kernel_rfl) (fun _ _ _ h => h) hS (Or.inl ⟨by rfl, fun w hSw => ?_⟩) ?_
          · go_split_ands
            go_simp
          try simp only [Act.put, List.setIfInBounds_toArray, List.set_cons_zero, List.set_cons_succ]
          refine wpAnyL_take0 (i := 9) (oi := { dst := some 60, op := Go.Op.fieldAddr 34 (Go.Operand.tmp 8) 0, type := 0, pos := "law.go:120", after := #[], guard := none }) (v := .pointer (some ⟨N10, 0, none⟩)) rfl (by kernel_rfl) (by kernel_rfl) (by kernel_rfl) (by kernel_rfl) (fun _ _ _ h => h) hS (Or.inl ⟨by rfl, fun w hSw => ?_⟩) ?_
          · go_split_ands
            go_simp
          try simp only [Act.put, List.setIfInBounds_toArray, List.set_cons_zero, List.set_cons_succ]
          refine wpAnyL_take2 (i := 10) (oi := { dst := some 61, op := Go.Op.load 9 (Go.Operand.tmp 60), type := 9, pos := "law.go:120", after := #[{ on := 9, ground := Go.Ground.data }], guard := none }) (v := .string p.1) 11 rfl (by kernel_rfl) (by kernel_rfl) (by kernel_rfl) (by kernel_rfl) (fun _ _ _ h => h) hS (Or.inl ⟨by rfl, fun w hSw => ?_⟩) ?_
          · go_split_ands
            go_simp
          try simp only [Act.put, List.setIfInBounds_toArray, List.set_cons_zero, List.set_cons_succ]
          refine wpAnyL_ready (rs := [2]) (by kernel_rfl) (by simp) ?_
          refine AllReadyL.cons (o := { dst := some 53, op := Go.Op.buildSlice 49 1 #[(0, Go.Operand.tmp 52)], type := 49, pos := "law.go:120", after := #[{ on := 1, ground := Go.Ground.data }], guard := none }) rfl (fun K' hK => ?_) AllReadyL.nil
          go_simp
          have hBl := (Below.refl _ Wd).alloc (Nat.le_refl _) (.cells #[.pointer (some ⟨b1, 0, none⟩)] 30)
          have n2 : (Wd.alloc (.cells #[.pointer (some ⟨b1, 0, none⟩)] 30)).heap[Wd.heap.size]? = some (.cells #[.pointer (some ⟨b1, 0, none⟩)] 30 (0, 0)) := heap_alloc_new Wd _
          have hSn := keepS hS hBl
          have hV := hV.below hBl
          have hP10 := hP10.below hBl
          have hB := hB.trans (hBl.mono hB.size)
          refine hK.out _ _ (fun _ => hSn) ?_
          clear hK K' hS hBl
          try simp only [Act.put, List.setIfInBounds_toArray, List.set_cons_zero, List.set_cons_succ]
          generalize Wd.alloc (.cells #[.pointer (some ⟨b1, 0, none⟩)] 30) = Wa at *
          generalize Wd.heap.size = B2 at *
          have hS := hSn
          clear hSn
          refine wpAnyL_ready (rs := [3]) (by kernel_rfl) (by simp) ?_
          refine AllReadyL.cons (o := { dst := some 54, op := Go.Op.call { callee := Go.Callee.builtin Go.Builtin.append, args := #[Go.Operand.tmp 51, Go.Operand.tmp 53], argTypes := #[49, 49] }, type := 49, pos := "law.go:120", after := #[{ on := 0, ground := Go.Ground.data }, { on := 2, ground := Go.Ground.data }], guard := none }) rfl (fun K' hK => ?_) AllReadyL.nil
          refine step_append_lies _ (by rfl) _ _ _ (by rfl) w.heap.size 30 i30 _ 1 8 Try.underlying49 hi30 hy300 hy301 hy302 zsz_ptr (by decide) (.slice (some ⟨g5, 0, none⟩) NV c5) NV (kcs bs) (by rfl) (by have := hV.r5; rw [HBL.out] at this; exact this) ⟨B2, 0, none⟩ 1 1 [.pointer (some ⟨b1, 0, none⟩)] (by rfl) rfl (World.news_of_block n2) (by simp [Value.oneCell']) (by omega) (by unfold maxLen; omega) (by omega) hV.hb _ rfl ?_
          intro gn5 cn5 Wb hown1 hgrow1 hat1 hlt1
          have hV2 := hV.grow5 (g := gn5) (cap := cn5) (b := b1) hgrow1 (by rw [HBL.out]; exact hown1) hat1
          have hP2 := hV.far5 hgrow1 hP10 (by decide)
          have hS2 : (fun w' : World => w'.cell? ⟨g6, K, none⟩ = some (.slice Ak pk.length ck) ∧ w'.cell? ⟨N10, 0, none⟩ = some (.string p.1) ∧ w'.cell? ⟨N10, 1, none⟩ = some (.string p.2)) Wb := ⟨(hgrow1.cell_far ⟨g6, K, none⟩ (World.block_lt_of_cell? _ _ hS.1) (fun e => by
              obtain ⟨cs5, h5⟩ := own_cells hV.r5 g6 e.symm
              obtain ⟨cs6, h6⟩ := own_cells hV.r6 g6 rfl
              rw [h5] at h6; simp at h6)).trans hS.1, hP2.cell 0, hP2.cell 1⟩
          have hBn := hB.grown hgrow1 hB.size (own_ge hV.r5)
          rw [HBL.out] at hV2
          refine hK.out _ _ (fun _ => hS2) ?_
          clear hK K' hS hgrow1 hat1 hlt1 hown1 n2 hV hP10 hB
          try simp only [Act.put, List.setIfInBounds_toArray, List.set_cons_zero, List.set_cons_succ]
          have hS := hS2
          have hV := hV2
          have hP10 := hP2
          have hB := hBn
          clear hS2 hV2 hP2 hBn
          refine wpAnyL_ready (rs := [11]) (by kernel_rfl) (by simp) ?_
          refine AllReadyL.cons (o := { dst := some 62, op := Go.Op.call { callee := Go.Callee.value (Go.Operand.func 19), args := #[Go.Operand.tmp 59, Go.Operand.tmp 61], argTypes := #[32, 9] }, type := 32, pos := "law.go:120", after := #[{ on := 8, ground := Go.Ground.data }, { on := 10, ground := Go.Ground.data }, { on := 3, ground := Go.Ground.chain }], guard := none }) rfl (fun K' hK => ?_) AllReadyL.nil
          go_simp
          have kc := refDrop_any Ak ck pk p.1 _ (hRk _ hV) (by omega)
          skip
          refine kc.mono ?_
          rintro e Wc ⟨v8, rfl, hO8, hBc⟩
          go_wp2_with fail
          clear kc
          have hO8 := OwnR.base hO8 hV.hb
          have hSn := keepS hS hBc
          have hV := hV.below hBc
          have hP10 := hP10.below hBc
          have hB := hB.trans (hBc.mono hB.size)
          obtain ⟨A8, c8, rfl, hR8⟩ := hO8.rd
          refine hK.out _ _ (fun _ => hSn) ?_
          clear hK K' hS hBc hR8
          try simp only [Act.put, List.setIfInBounds_toArray, List.set_cons_zero, List.set_cons_succ]
          have hS := hSn
          clear hSn
          refine wpAnyL_ready (rs := [12]) (by kernel_rfl) (by simp) ?_
          refine AllReadyL.cons (o := { dst := some 63, op := Go.Op.buildSlice 50 1 #[(0, Go.Operand.tmp 62)], type := 50, pos := "law.go:120", after := #[{ on := 11, ground := Go.Ground.data }], guard := none }) rfl (fun K' hK => ?_) AllReadyL.nil
          go_simp
          have hBl := (Below.refl _ Wc).alloc (Nat.le_refl _) (.cells #[(.slice A8 (dropK pk p.1).length c8)] 32)
          have n2 : (Wc.alloc (.cells #[(.slice A8 (dropK pk p.1).length c8)] 32)).heap[Wc.heap.size]? = some (.cells #[(.slice A8 (dropK pk p.1).length c8)] 32 (0, 0)) := heap_alloc_new Wc _
          have hSn := keepS hS hBl
          have hV := hV.below hBl
          have hP10 := hP10.below hBl
          have hO8 := hO8.below' hBl
          have hB := hB.trans (hBl.mono hB.size)
          refine hK.out _ _ (fun _ => hSn) ?_
          clear hK K' hS hBl
          try simp only [Act.put, List.setIfInBounds_toArray, List.set_cons_zero, List.set_cons_succ]
          generalize Wc.alloc (.cells #[(.slice A8 (dropK pk p.1).length c8)] 32) = We at *
          generalize Wc.heap.size = B3 at *
          have hV := hV.addL hO8
          clear hO8
          refine wpAnyL_ready (rs := [13]) (by kernel_rfl) (by simp) ?_
          refine AllReadyL.cons (o := { dst := some 64, op := Go.Op.call { callee := Go.Callee.builtin Go.Builtin.append, args := #[Go.Operand.tmp 55, Go.Operand.tmp 63], argTypes := #[50, 50] }, type := 50, pos := "law.go:120", after := #[{ on := 4, ground := Go.Ground.data }, { on := 12, ground := Go.Ground.data }, { on := 11, ground := Go.Ground.chain }], guard := none }) rfl (fun K' hK => ?_) AllReadyL.nil
          refine step_append_lies _ (by rfl) _ _ _ (by rfl) w.heap.size 32 i32 _ 1 24 Try.underlying50 hi32 hy320 hy321 hy322 zsz_sl (by decide) (.slice (some ⟨g6, 0, none⟩) NV c6) NV ls (by rfl) (by have := hV.r6; rw [HLL.out] at this; exact this) ⟨B3, 0, none⟩ 1 1 [(.slice A8 (dropK pk p.1).length c8)] (by rfl) rfl (World.news_of_block n2) (by simp [Value.oneCell']) (by omega) (by unfold maxLen; omega) (by omega) hV.hb _ rfl ?_
          intro gn6 cn6 Wf hown1 hgrow1 hat1 hlt1
          have hV2 := hV.grow6 (g := gn6) (cap := cn6) (u := (.slice A8 (dropK pk p.1).length c8)) hgrow1 (by rw [HLL.out]; exact hown1)
          have hBn := hB.grown hgrow1 hB.size (own_ge hV.r6)
          rw [HLL.out] at hV2
          refine hK.out _ _ (late_no (by kernel_rfl)) ?_
          clear hK K' hgrow1 hat1 hlt1 hown1 n2 hV hP10 hB
          try simp only [Act.put, List.setIfInBounds_toArray, List.set_cons_zero, List.set_cons_succ]
          have hV := hV2
          have hB := hBn
          clear hV2 hBn
          refine wpAnyL_ready (rs := [14]) (by kernel_rfl) (by simp) ?_
          refine AllReadyL.cons (o := { dst := some 3, op := Go.Op.assign (Go.Operand.tmp 54), type := 49, pos := "law.go:120", after := #[{ on := 3, ground := Go.Ground.data }, { on := 13, ground := Go.Ground.chain }, { on := 0, ground := Go.Ground.phase }, { on := 1, ground := Go.Ground.phase }, { on := 2, ground := Go.Ground.phase }, { on := 3, ground := Go.Ground.phase }, { on := 4, ground := Go.Ground.textOnly Go.Departure.lateStores }, { on := 5, ground := Go.Ground.textOnly Go.Departure.lateStores }, { on := 6, ground := Go.Ground.textOnly Go.Departure.lateStores }, { on := 7, ground := Go.Ground.textOnly Go.Departure.lateStores }, { on := 8, ground := Go.Ground.textOnly Go.Departure.lateStores }, { on := 9, ground := Go.Ground.textOnly Go.Departure.lateStores }, { on := 10, ground := Go.Ground.textOnly Go.Departure.lateStores }, { on := 11, ground := Go.Ground.textOnly Go.Departure.lateStoresUnsure }, { on := 12, ground := Go.Ground.textOnly Go.Departure.lateStores }, { on := 13, ground := Go.Ground.textOnly Go.Departure.lateStoresUnsure }], guard := none }) rfl (fun K' hK => ?_) AllReadyL.nil
          go_simp
          refine hK.out _ _ (late_no (by kernel_rfl)) ?_
          clear hK K'
          try simp only [Act.put, List.setIfInBounds_toArray, List.set_cons_zero, List.set_cons_succ]
          refine wpAnyL_ready (rs := [15]) (by kernel_rfl) (by simp) ?_
          refine AllReadyL.cons (o := { dst := some 4, op := Go.Op.assign (Go.Operand.tmp 64), type := 50, pos := "law.go:120", after := #[{ on := 13, ground := Go.Ground.data }, { on := 14, ground := Go.Ground.chain }, { on := 0, ground := Go.Ground.phase }, { on := 1, ground := Go.Ground.phase }, { on := 2, ground := Go.Ground.phase }, { on := 3, ground := Go.Ground.phase }, { on := 4, ground := Go.Ground.phase }, { on := 5, ground := Go.Ground.phase }, { on := 6, ground := Go.Ground.phase }, { on := 7, ground := Go.Ground.phase }, { on := 8, ground := Go.Ground.phase }, { on := 9, ground := Go.Ground.phase }, { on := 10, ground := Go.Ground.phase }, { on := 11, ground := Go.Ground.phase }, { on := 12, ground := Go.Ground.phase }, { on := 13, ground := Go.Ground.phase }, { on := 14, ground := Go.Ground.phase }], guard := none }) rfl (fun K' hK => ?_) AllReadyL.nil
          go_simp
          refine hK.out _ _ (late_no (by kernel_rfl)) ?_
          clear hK K'
          try simp only [Act.put, List.setIfInBounds_toArray, List.set_cons_zero, List.set_cons_succ]
          refine wpAnyL_done (by kernel_rfl) ?_ _
          clear z6 hRk
          have hfin := HSN.out (.slice A8 (dropK pk p.1).length c8) b1 (dropK pk p.1) _ gn5 cn5 gn6 cn6 hV
          go_wp2_with fail
          refine ⟨⟨j + 1, vs ++ [⟨b1, (.slice A8 (dropK pk p.1).length c8), dropK pk p.1⟩], by omega, by omega, ?_, by go_num, hfin, ?_, hB⟩, by simp [RowKit.intOf]; omega⟩
          · rw [List.length_append, hvl.out]; rfl
          · intro e he
            rcases List.mem_append.1 he with he | he
            · have q2 := HPs.out e he
              omega
            · rw [List.mem_singleton] at he
              subst he
              exact Nat.le_trans (List.length_filter_le _ _) (by omega)

        · have D3 := (dmod hdd).2 h3
          go_upto_region 13 with (fail)
          have hS0 : (fun w' : World => w'.cell? ⟨g5, K, none⟩ = some (.pointer (some ⟨bk, 0, none⟩)) ∧ w'.cell? ⟨N10, 0, none⟩ = some (.string p.1) ∧ w'.cell? ⟨N10, 1, none⟩ = some (.string p.2)) W4.drew := ⟨z5, hP10.cell 0, hP10.cell 1⟩
          have hdr : Below W4.heap.size W4 W4.drew := (Below.refl _ W4).drew
          have hV := hV.below hdr
          have hP10 := hP10.below hdr
          have hB := hB.drew
          clear z5
          refine wp_region_held_drew (S := fun w' : World => w'.cell? ⟨g5, K, none⟩ = some (.pointer (some ⟨bk, 0, none⟩)) ∧ w'.cell? ⟨N10, 0, none⟩ = some (.string p.1) ∧ w'.cell? ⟨N10, 1, none⟩ = some (.string p.2)) (by kernel_rfl) hS0 ?_
          intro hS
          refine wpAnyH_take (i := 0) (oi := { dst := some 66, op := Go.Op.move (Go.Operand.tmp 3), type := 49, pos := "law.go:122", after := #[], guard := none }) (v := .slice (some ⟨g5, 0, none⟩) NV c5) rfl (by kernel_rfl) (by kernel_rfl) (by kernel_rfl) (fun _ _ _ h => h) (Or.inl ⟨by rfl, fun w hSw => ?_⟩) hS ?_
          · go_split_ands
            go_simp
          try simp only [Act.put, List.setIfInBounds_toArray, List.set_cons_zero, List.set_cons_succ]
          refine wpAnyH_take (i := 1) (oi := { dst := some 67, op := Go.Op.move (Go.Operand.tmp 7), type := 3, pos := "law.go:122", after := #[], guard := none }) (v := .int .i64 K) rfl (by kernel_rfl) (by kernel_rfl) (by kernel_rfl) (fun _ _ _ h => h) (Or.inl ⟨by rfl, fun w hSw => ?_⟩) hS ?_
          · go_split_ands
            go_simp
          try simp only [Act.put, List.setIfInBounds_toArray, List.set_cons_zero, List.set_cons_succ]
          refine wpAnyH_take (i := 2) (oi := { dst := some 68, op := Go.Op.indexAddr 49 (Go.Operand.tmp 66) (Go.Operand.tmp 67), type := 0, pos := "law.go:122", after := #[{ on := 0, ground := Go.Ground.data }, { on := 1, ground := Go.Ground.data }], guard := none }) (v := .pointer (some ⟨g5, K, none⟩)) rfl (by kernel_rfl) (by kernel_rfl) (by kernel_rfl) (fun _ _ _ h => h) (Or.inl ⟨by rfl, fun w hSw => ?_⟩) hS ?_
          · go_split_ands
            go_simp
          try simp only [Act.put, List.setIfInBounds_toArray, List.set_cons_zero, List.set_cons_succ]
          refine wpAnyH_take (i := 3) (oi := { dst := some 69, op := Go.Op.load 30 (Go.Operand.tmp 68), type := 30, pos := "law.go:122", after := #[{ on := 2, ground := Go.Ground.data }], guard := none }) (v := .pointer (some ⟨bk, 0, none⟩)) rfl (by kernel_rfl) (by kernel_rfl) (by kernel_rfl) (fun _ _ _ h => h) (Or.inl ⟨by rfl, fun w hSw => ?_⟩) hS ?_
          · go_split_ands
            go_simp
          try simp only [Act.put, List.setIfInBounds_toArray, List.set_cons_zero, List.set_cons_succ]
          refine wpAnyH_take (i := 4) (oi := { dst := some 70, op := Go.Op.load 34 (Go.Operand.tmp 8), type := 34, pos := "law.go:122", after := #[], guard := none }) (v := .agg #[.string p.1, .string p.2]) rfl (by kernel_rfl) (by kernel_rfl) (by kernel_rfl) (fun _ _ _ h => h) (Or.inl ⟨by rfl, fun w hSw => ?_⟩) hS ?_
          · go_split_ands
            go_simp
          try simp only [Act.put, List.setIfInBounds_toArray, List.set_cons_zero, List.set_cons_succ]
          refine wpAnyH_ready (rs := [5]) (by kernel_rfl) (by simp) ?_
          refine AllReadyH.cons (o := { dst := some 71, op := Go.Op.call { callee := Go.Callee.value (Go.Operand.func 20), args := #[Go.Operand.const (Go.Value.pointer none), Go.Operand.tmp 69, Go.Operand.tmp 70], argTypes := #[56, 30, 34] }, type := 40, pos := "law.go:122", after := #[{ on := 3, ground := Go.Ground.data }, { on := 4, ground := Go.Ground.data }], guard := none }) rfl (fun K hK => ?_) AllReadyH.nil
          go_simp
          refine (kp _ hdr).mono ?_
          rintro e wA ⟨b1, rfl, -, hT1, hBA⟩
          go_wp2_with fail
          have hSn := keep3v hS hBA
          refine hK.out _ _ hSn (fun _ => ?_)
          clear hK K hS
          try simp only [Act.put, List.setIfInBounds_toArray, List.set_cons_zero, List.set_cons_succ]
          have hS := hSn
          clear hSn
          have hB := hB.trans (hBA.mono hB.size)
          have hV := hV.below hBA
          have hP10 := hP10.below hBA
          clear hBA
          refine wpAnyH_take (i := 6) (oi := { dst := some 65, op := Go.Op.move (Go.Operand.tmp 71), type := 40, pos := "law.go:122", after := #[{ on := 5, ground := Go.Ground.data }], guard := none }) (v := .tuple #[.pointer (some ⟨b1, 0, none⟩), .bool (getR pk p.1).isNone]) rfl (by kernel_rfl) (by kernel_rfl) (by kernel_rfl) (fun _ _ _ h => h) (Or.inl ⟨by rfl, fun w hSw => ?_⟩) hS ?_
          · go_split_ands
            go_simp
          try simp only [Act.put, List.setIfInBounds_toArray, List.set_cons_zero, List.set_cons_succ]
          refine wpAnyH_take (i := 7) (oi := { dst := some 72, op := Go.Op.extract (Go.Operand.tmp 65) 0, type := 30, pos := "law.go:122", after := #[{ on := 6, ground := Go.Ground.data }], guard := none }) (v := .pointer (some ⟨b1, 0, none⟩)) rfl (by kernel_rfl) (by kernel_rfl) (by kernel_rfl) (fun _ _ _ h => h) (Or.inl ⟨by rfl, fun w hSw => ?_⟩) hS ?_
          · go_split_ands
            go_simp
          try simp only [Act.put, List.setIfInBounds_toArray, List.set_cons_zero, List.set_cons_succ]
          refine wpAnyH_take (i := 8) (oi := { dst := some 73, op := Go.Op.extract (Go.Operand.tmp 65) 1, type := 4, pos := "law.go:122", after := #[{ on := 6, ground := Go.Ground.data }, { on := 9, ground := Go.Ground.gcOnly Go.Departure.lateStores }], guard := none }) (v := .bool (getR pk p.1).isNone) rfl (by kernel_rfl) (by kernel_rfl) (by kernel_rfl) (fun _ _ _ h => h) (Or.inl ⟨by rfl, fun w hSw => ?_⟩) hS ?_
          · go_split_ands
            go_simp
          try simp only [Act.put, List.setIfInBounds_toArray, List.set_cons_zero, List.set_cons_succ]
          refine wpAnyH_take (i := 9) (oi := { dst := some 11, op := Go.Op.assign (Go.Operand.tmp 72), type := 30, pos := "law.go:122", after := #[{ on := 7, ground := Go.Ground.data }, { on := 5, ground := Go.Ground.chain }, { on := 0, ground := Go.Ground.phase }, { on := 1, ground := Go.Ground.phase }, { on := 2, ground := Go.Ground.phase }, { on := 3, ground := Go.Ground.phase }, { on := 4, ground := Go.Ground.phase }, { on := 5, ground := Go.Ground.phase }, { on := 6, ground := Go.Ground.phase }, { on := 7, ground := Go.Ground.phase }, { on := 8, ground := Go.Ground.textOnly Go.Departure.lateStores }], guard := none }) (v := .pointer (some ⟨b1, 0, none⟩)) rfl (by kernel_rfl) (by kernel_rfl) (by kernel_rfl) (fun _ _ _ h => h) (Or.inl ⟨by rfl, fun w hSw => ?_⟩) hS ?_
          · go_split_ands
            go_simp
          try simp only [Act.put, List.setIfInBounds_toArray, List.set_cons_zero, List.set_cons_succ]
          refine wpAnyH_take (i := 10) (oi := { dst := some 12, op := Go.Op.assign (Go.Operand.tmp 73), type := 4, pos := "law.go:122", after := #[{ on := 8, ground := Go.Ground.data }, { on := 9, ground := Go.Ground.chain }, { on := 0, ground := Go.Ground.phase }, { on := 1, ground := Go.Ground.phase }, { on := 2, ground := Go.Ground.phase }, { on := 3, ground := Go.Ground.phase }, { on := 4, ground := Go.Ground.phase }, { on := 5, ground := Go.Ground.phase }, { on := 6, ground := Go.Ground.phase }, { on := 7, ground := Go.Ground.phase }, { on := 8, ground := Go.Ground.phase }, { on := 9, ground := Go.Ground.phase }], guard := none }) (v := .bool (getR pk p.1).isNone) rfl (by kernel_rfl) (by kernel_rfl) (by kernel_rfl) (fun _ _ _ h => h) (Or.inl ⟨by rfl, fun w hSw => ?_⟩) hS ?_
          · go_split_ands
            go_simp
          try simp only [Act.put, List.setIfInBounds_toArray, List.set_cons_zero, List.set_cons_succ]
          refine wpAnyH_done (by kernel_rfl) ?_ _
          clear hS kd kp hdr
          generalize (getR pk p.1).isNone = gb at *
          have hV := hV.addT hT1
          clear hT1
          obtain ⟨gx, cx, ex, z6⟩ := row_at hV.r6 K (by rw [HLL.out]; exact hKlt) (.slice Ak pk.length ck) HLK.out
          simp only [Value.slice.injEq, Option.some.injEq, Addr.mk.injEq, and_true] at ex
          obtain ⟨rfl, -⟩ := ex
          obtain ⟨W, hW⟩ : ∃ W, W = wA := ⟨_, rfl⟩
          subst hW
          go_upto_region 14 with (fail)
          refine wp_region_late (S := fun w' => w'.cell? ⟨g6, K, none⟩ = some (.slice Ak pk.length ck) ∧ w'.cell? ⟨N10, 0, none⟩ = some (.string p.1) ∧ w'.cell? ⟨N10, 1, none⟩ = some (.string p.2)) (st := 12) (by kernel_rfl) ?_
          have hS : (fun w' : World => w'.cell? ⟨g6, K, none⟩ = some (.slice Ak pk.length ck) ∧ w'.cell? ⟨N10, 0, none⟩ = some (.string p.1) ∧ w'.cell? ⟨N10, 1, none⟩ = some (.string p.2)) W.drew := ⟨z6, hP10.cell 0, hP10.cell 1⟩
          have hdr2 : Below W.heap.size W W.drew := (Below.refl _ W).drew
          have hV := hV.below hdr2
          have hP10 := hP10.below hdr2
          have hB := hB.drew
          clear hdr2
          generalize W.drew = Wd at *
          refine wpAnyL_take0 (i := 0) (oi := { dst := some 74, op := Go.Op.move (Go.Operand.tmp 3), type := 49, pos := "law.go:123", after := #[], guard := none }) (v := .slice (some ⟨g5, 0, none⟩) NV c5) rfl (by kernel_rfl) (by kernel_rfl) (by kernel_rfl) (by kernel_rfl) (fun _ _ _ h => h) hS (Or.inl ⟨by rfl, fun w hSw => ?_⟩) ?_
          · go_split_ands
            go_simp
          try simp only [Act.put, List.setIfInBounds_toArray, List.set_cons_zero, List.set_cons_succ]
          refine wpAnyL_take0 (i := 1) (oi := { dst := some 75, op := Go.Op.move (Go.Operand.tmp 11), type := 30, pos := "law.go:123", after := #[], guard := none }) (v := .pointer (some ⟨b1, 0, none⟩)) rfl (by kernel_rfl) (by kernel_rfl) (by kernel_rfl) (by kernel_rfl) (fun _ _ _ h => h) hS (Or.inl ⟨by rfl, fun w hSw => ?_⟩) ?_
          · go_split_ands
            go_simp
          try simp only [Act.put, List.setIfInBounds_toArray, List.set_cons_zero, List.set_cons_succ]
          refine wpAnyL_take0 (i := 4) (oi := { dst := some 78, op := Go.Op.move (Go.Operand.tmp 4), type := 50, pos := "law.go:123", after := #[], guard := none }) (v := .slice (some ⟨g6, 0, none⟩) NV c6) rfl (by kernel_rfl) (by kernel_rfl) (by kernel_rfl) (by kernel_rfl) (fun _ _ _ h => h) hS (Or.inl ⟨by rfl, fun w hSw => ?_⟩) ?_
          · go_split_ands
            go_simp
          try simp only [Act.put, List.setIfInBounds_toArray, List.set_cons_zero, List.set_cons_succ]
          refine wpAnyL_take0 (i := 5) (oi := { dst := some 79, op := Go.Op.move (Go.Operand.tmp 4), type := 50, pos := "law.go:123", after := #[], guard := none }) (v := .slice (some ⟨g6, 0, none⟩) NV c6) rfl (by kernel_rfl) (by kernel_rfl) (by kernel_rfl) (by kernel_rfl) (fun _ _ _ h => h) hS (Or.inl ⟨by rfl, fun w hSw => ?_⟩) ?_
          · go_split_ands
            go_simp
          try simp only [Act.put, List.setIfInBounds_toArray, List.set_cons_zero, List.set_cons_succ]
          refine wpAnyL_take0 (i := 6) (oi := { dst := some 80, op := Go.Op.move (Go.Operand.tmp 7), type := 3, pos := "law.go:123", after := #[], guard := none }) (v := .int .i64 K) rfl (by kernel_rfl) (by kernel_rfl) (by kernel_rfl) (by kernel_rfl) (fun _ _ _ h => h) hS (Or.inl ⟨by rfl, fun w hSw => ?_⟩) ?_
          · go_split_ands
            go_simp
          try simp only [Act.put, List.setIfInBounds_toArray, List.set_cons_zero, List.set_cons_succ]
          refine wpAnyL_take0 (i := 7) (oi := { dst := some 81, op := Go.Op.indexAddr 50 (Go.Operand.tmp 79) (Go.Operand.tmp 80), type := 0, pos := "law.go:123", after := #[{ on := 5, ground := Go.Ground.data }, { on := 6, ground := Go.Ground.data }], guard := none }) (v := .pointer (some ⟨g6, K, none⟩)) rfl (by kernel_rfl) (by kernel_rfl) (by kernel_rfl) (by kernel_rfl) (fun _ _ _ h => h) hS (Or.inl ⟨by rfl, fun w hSw => ?_⟩) ?_
          · go_split_ands
            go_simp
          try simp only [Act.put, List.setIfInBounds_toArray, List.set_cons_zero, List.set_cons_succ]
          refine wpAnyL_take2 (i := 8) (oi := { dst := some 82, op := Go.Op.load 32 (Go.Operand.tmp 81), type := 32, pos := "law.go:123", after := #[{ on := 7, ground := Go.Ground.data }], guard := none }) (v := .slice Ak pk.length ck) 10 rfl (by kernel_rfl) (by kernel_rfl) (by kernel_rfl) (by kernel_rfl) (fun _ _ _ h => h) hS (Or.inl ⟨by rfl, fun w hSw => ?_⟩) ?_
          · go_split_ands
            go_simp
          try simp only [Act.put, List.setIfInBounds_toArray, List.set_cons_zero, List.set_cons_succ]
          refine wpAnyL_take2 (i := 9) (oi := { dst := some 83, op := Go.Op.load 34 (Go.Operand.tmp 8), type := 34, pos := "law.go:123", after := #[], guard := none }) (v := .agg #[.string p.1, .string p.2]) 10 rfl (by kernel_rfl) (by kernel_rfl) (by kernel_rfl) (by kernel_rfl) (fun _ _ _ h => h) hS (Or.inl ⟨by rfl, fun w hSw => ?_⟩) ?_
          · go_split_ands
            go_simp
          try simp only [Act.put, List.setIfInBounds_toArray, List.set_cons_zero, List.set_cons_succ]
          refine wpAnyL_ready (rs := [2]) (by kernel_rfl) (by simp) ?_
          refine AllReadyL.cons (o := { dst := some 76, op := Go.Op.buildSlice 49 1 #[(0, Go.Operand.tmp 75)], type := 49, pos := "law.go:123", after := #[{ on := 1, ground := Go.Ground.data }], guard := none }) rfl (fun K' hK => ?_) AllReadyL.nil
          go_simp
          have hBl := (Below.refl _ Wd).alloc (Nat.le_refl _) (.cells #[.pointer (some ⟨b1, 0, none⟩)] 30)
          have n2 : (Wd.alloc (.cells #[.pointer (some ⟨b1, 0, none⟩)] 30)).heap[Wd.heap.size]? = some (.cells #[.pointer (some ⟨b1, 0, none⟩)] 30 (0, 0)) := heap_alloc_new Wd _
          have hSn := keepS hS hBl
          have hV := hV.below hBl
          have hP10 := hP10.below hBl
          have hB := hB.trans (hBl.mono hB.size)
          refine hK.out _ _ (fun _ => hSn) ?_
          clear hK K' hS hBl
          try simp only [Act.put, List.setIfInBounds_toArray, List.set_cons_zero, List.set_cons_succ]
          generalize Wd.alloc (.cells #[.pointer (some ⟨b1, 0, none⟩)] 30) = Wa at *
          generalize Wd.heap.size = B2 at *
          have hS := hSn
          clear hSn
          refine wpAnyL_ready (rs := [3]) (by kernel_rfl) (by simp) ?_
          refine AllReadyL.cons (o := { dst := some 77, op := Go.Op.call { callee := Go.Callee.builtin Go.Builtin.append, args := #[Go.Operand.tmp 74, Go.Operand.tmp 76], argTypes := #[49, 49] }, type := 49, pos := "law.go:123", after := #[{ on := 0, ground := Go.Ground.data }, { on := 2, ground := Go.Ground.data }], guard := none }) rfl (fun K' hK => ?_) AllReadyL.nil
          refine step_append_lies _ (by rfl) _ _ _ (by rfl) w.heap.size 30 i30 _ 1 8 Try.underlying49 hi30 hy300 hy301 hy302 zsz_ptr (by decide) (.slice (some ⟨g5, 0, none⟩) NV c5) NV (kcs bs) (by rfl) (by have := hV.r5; rw [HBL.out] at this; exact this) ⟨B2, 0, none⟩ 1 1 [.pointer (some ⟨b1, 0, none⟩)] (by rfl) rfl (World.news_of_block n2) (by simp [Value.oneCell']) (by omega) (by unfold maxLen; omega) (by omega) hV.hb _ rfl ?_
          intro gn5 cn5 Wb hown1 hgrow1 hat1 hlt1
          have hV2 := hV.grow5 (g := gn5) (cap := cn5) (b := b1) hgrow1 (by rw [HBL.out]; exact hown1) hat1
          have hP2 := hV.far5 hgrow1 hP10 (by decide)
          have hS2 : (fun w' : World => w'.cell? ⟨g6, K, none⟩ = some (.slice Ak pk.length ck) ∧ w'.cell? ⟨N10, 0, none⟩ = some (.string p.1) ∧ w'.cell? ⟨N10, 1, none⟩ = some (.string p.2)) Wb := ⟨(hgrow1.cell_far ⟨g6, K, none⟩ (World.block_lt_of_cell? _ _ hS.1) (fun e => by
              obtain ⟨cs5, h5⟩ := own_cells hV.r5 g6 e.symm
              obtain ⟨cs6, h6⟩ := own_cells hV.r6 g6 rfl
              rw [h5] at h6; simp at h6)).trans hS.1, hP2.cell 0, hP2.cell 1⟩
          have hBn := hB.grown hgrow1 hB.size (own_ge hV.r5)
          rw [HBL.out] at hV2
          refine hK.out _ _ (fun _ => hS2) ?_
          clear hK K' hS hgrow1 hat1 hlt1 hown1 n2 hV hP10 hB
          try simp only [Act.put, List.setIfInBounds_toArray, List.set_cons_zero, List.set_cons_succ]
          have hS := hS2
          have hV := hV2
          have hP10 := hP2
          have hB := hBn
          clear hS2 hV2 hP2 hBn
          refine wpAnyL_ready (rs := [10]) (by kernel_rfl) (by simp) ?_
          refine AllReadyL.cons (o := { dst := some 84, op := Go.Op.call { callee := Go.Callee.value (Go.Operand.func 21), args := #[Go.Operand.tmp 82, Go.Operand.tmp 83], argTypes := #[32, 45] }, type := 32, pos := "law.go:123", after := #[{ on := 8, ground := Go.Ground.data }, { on := 9, ground := Go.Ground.data }, { on := 3, ground := Go.Ground.chain }], guard := none }) rfl (fun K' hK => ?_) AllReadyL.nil
          go_simp
          have kc := refPut_any Ak ck pk p _ (hRk _ hV) (by omega) (sized_mem fun x hx => Nat.le_trans (hzk x hx) (by unfold maxLen; omega)) (by unfold maxLen; omega)
          unfold Pr.v at kc
          refine kc.mono ?_
          rintro e Wc ⟨v8, rfl, hO8, hBc⟩
          go_wp2_with fail
          clear kc
          have hO8 := OwnR.base hO8 hV.hb
          have hSn := keepS hS hBc
          have hV := hV.below hBc
          have hP10 := hP10.below hBc
          have hB := hB.trans (hBc.mono hB.size)
          obtain ⟨A8, c8, rfl, hR8⟩ := hO8.rd
          refine hK.out _ _ (fun _ => hSn) ?_
          clear hK K' hS hBc hR8
          try simp only [Act.put, List.setIfInBounds_toArray, List.set_cons_zero, List.set_cons_succ]
          have hS := hSn
          clear hSn
          refine wpAnyL_ready (rs := [11]) (by kernel_rfl) (by simp) ?_
          refine AllReadyL.cons (o := { dst := some 85, op := Go.Op.buildSlice 50 1 #[(0, Go.Operand.tmp 84)], type := 50, pos := "law.go:123", after := #[{ on := 10, ground := Go.Ground.data }], guard := none }) rfl (fun K' hK => ?_) AllReadyL.nil
          go_simp
          have hBl := (Below.refl _ Wc).alloc (Nat.le_refl _) (.cells #[(.slice A8 (putK pk p).length c8)] 32)
          have n2 : (Wc.alloc (.cells #[(.slice A8 (putK pk p).length c8)] 32)).heap[Wc.heap.size]? = some (.cells #[(.slice A8 (putK pk p).length c8)] 32 (0, 0)) := heap_alloc_new Wc _
          have hSn := keepS hS hBl
          have hV := hV.below hBl
          have hP10 := hP10.below hBl
          have hO8 := hO8.below' hBl
          have hB := hB.trans (hBl.mono hB.size)
          refine hK.out _ _ (fun _ => hSn) ?_
          clear hK K' hS hBl
          try simp only [Act.put, List.setIfInBounds_toArray, List.set_cons_zero, List.set_cons_succ]
          generalize Wc.alloc (.cells #[(.slice A8 (putK pk p).length c8)] 32) = We at *
          generalize Wc.heap.size = B3 at *
          have hV := hV.addL hO8
          clear hO8
          refine wpAnyL_ready (rs := [12]) (by kernel_rfl) (by simp) ?_
          refine AllReadyL.cons (o := { dst := some 86, op := Go.Op.call { callee := Go.Callee.builtin Go.Builtin.append, args := #[Go.Operand.tmp 78, Go.Operand.tmp 85], argTypes := #[50, 50] }, type := 50, pos := "law.go:123", after := #[{ on := 4, ground := Go.Ground.data }, { on := 11, ground := Go.Ground.data }, { on := 10, ground := Go.Ground.chain }], guard := none }) rfl (fun K' hK => ?_) AllReadyL.nil
          refine step_append_lies _ (by rfl) _ _ _ (by rfl) w.heap.size 32 i32 _ 1 24 Try.underlying50 hi32 hy320 hy321 hy322 zsz_sl (by decide) (.slice (some ⟨g6, 0, none⟩) NV c6) NV ls (by rfl) (by have := hV.r6; rw [HLL.out] at this; exact this) ⟨B3, 0, none⟩ 1 1 [(.slice A8 (putK pk p).length c8)] (by rfl) rfl (World.news_of_block n2) (by simp [Value.oneCell']) (by omega) (by unfold maxLen; omega) (by omega) hV.hb _ rfl ?_
          intro gn6 cn6 Wf hown1 hgrow1 hat1 hlt1
          have hV2 := hV.grow6 (g := gn6) (cap := cn6) (u := (.slice A8 (putK pk p).length c8)) hgrow1 (by rw [HLL.out]; exact hown1)
          have hBn := hB.grown hgrow1 hB.size (own_ge hV.r6)
          rw [HLL.out] at hV2
          refine hK.out _ _ (late_no (by kernel_rfl)) ?_
          clear hK K' hgrow1 hat1 hlt1 hown1 n2 hV hP10 hB
          try simp only [Act.put, List.setIfInBounds_toArray, List.set_cons_zero, List.set_cons_succ]
          have hV := hV2
          have hB := hBn
          clear hV2 hBn
          refine wpAnyL_ready (rs := [13]) (by kernel_rfl) (by simp) ?_
          refine AllReadyL.cons (o := { dst := some 3, op := Go.Op.assign (Go.Operand.tmp 77), type := 49, pos := "law.go:123", after := #[{ on := 3, ground := Go.Ground.data }, { on := 12, ground := Go.Ground.chain }, { on := 0, ground := Go.Ground.phase }, { on := 1, ground := Go.Ground.phase }, { on := 2, ground := Go.Ground.phase }, { on := 3, ground := Go.Ground.phase }, { on := 4, ground := Go.Ground.textOnly Go.Departure.lateStores }, { on := 5, ground := Go.Ground.textOnly Go.Departure.lateStores }, { on := 6, ground := Go.Ground.textOnly Go.Departure.lateStores }, { on := 7, ground := Go.Ground.textOnly Go.Departure.lateStores }, { on := 8, ground := Go.Ground.textOnly Go.Departure.lateStores }, { on := 9, ground := Go.Ground.textOnly Go.Departure.lateStores }, { on := 10, ground := Go.Ground.textOnly Go.Departure.lateStoresUnsure }, { on := 11, ground := Go.Ground.textOnly Go.Departure.lateStores }, { on := 12, ground := Go.Ground.textOnly Go.Departure.lateStoresUnsure }], guard := none }) rfl (fun K' hK => ?_) AllReadyL.nil
          go_simp
          refine hK.out _ _ (late_no (by kernel_rfl)) ?_
          clear hK K'
          try simp only [Act.put, List.setIfInBounds_toArray, List.set_cons_zero, List.set_cons_succ]
          refine wpAnyL_ready (rs := [14]) (by kernel_rfl) (by simp) ?_
          refine AllReadyL.cons (o := { dst := some 4, op := Go.Op.assign (Go.Operand.tmp 86), type := 50, pos := "law.go:123", after := #[{ on := 12, ground := Go.Ground.data }, { on := 13, ground := Go.Ground.chain }, { on := 0, ground := Go.Ground.phase }, { on := 1, ground := Go.Ground.phase }, { on := 2, ground := Go.Ground.phase }, { on := 3, ground := Go.Ground.phase }, { on := 4, ground := Go.Ground.phase }, { on := 5, ground := Go.Ground.phase }, { on := 6, ground := Go.Ground.phase }, { on := 7, ground := Go.Ground.phase }, { on := 8, ground := Go.Ground.phase }, { on := 9, ground := Go.Ground.phase }, { on := 10, ground := Go.Ground.phase }, { on := 11, ground := Go.Ground.phase }, { on := 12, ground := Go.Ground.phase }, { on := 13, ground := Go.Ground.phase }], guard := none }) rfl (fun K' hK => ?_) AllReadyL.nil
          go_simp
          refine hK.out _ _ (late_no (by kernel_rfl)) ?_
          clear hK K'
          try simp only [Act.put, List.setIfInBounds_toArray, List.set_cons_zero, List.set_cons_succ]
          refine wpAnyL_done (by kernel_rfl) ?_ _
          clear z6 hRk
          have hfin := HSN.out (.slice A8 (putK pk p).length c8) b1 (putK pk p) _ gn5 cn5 gn6 cn6 hV
          go_wp2_with fail
          refine ⟨⟨j + 1, vs ++ [⟨b1, (.slice A8 (putK pk p).length c8), putK pk p⟩], by omega, by omega, ?_, by go_num, hfin, ?_, hB⟩, by simp [RowKit.intOf]; omega⟩
          · rw [List.length_append, hvl.out]; rfl
          · intro e he
            rcases List.mem_append.1 he with he | he
            · have q2 := HPs.out e he
              omega
            · rw [List.mem_singleton] at he
              subst he
              exact Nat.le_trans (put_lenR pk p) (by omega)

      · have G : (40 : Int) ≤ (j : Int) := by omega
        have HF := Lib.hid (fun u5 u6 hV => vers16_any (fun e w' => e = .returned (.bool true) ∧ Below w.heap.size w w') w W1 u5 u6 vs hB hV (fun e he => by have := hPs e he; omega) (by omega) (fun w' h => ⟨rfl, h⟩))
        have HF := Lib.hid (HF.out _ _ hV)
        clear hV hAct HA
        repeat (first | exact HF.out _ _ _ _ _ _ _ _ _ _ _ _ _ _ _ _ _ _ _ _ _ _ _ _ _ _ _ _ _ _ _ _ _ _ _ _ _ _ _ _ _ _ _ _ _ _ _ _ _ _ _ _ _ _ _ _ _ _ _ _ _ _ _ _ _ _ _ _ _ _ _ _ _ _ _ _ _ _ _ _ _ _ _ _ _ _ _ _ _ _ _ _ _ _ _ _ _ _ _ _ _ _ | go_step)
    · obtain rfl : j = len1 := by omega
      have G : ¬ ((j : Int) < (j : Int)) := by omega
      have HF := Lib.hid (fun u5 u6 hV => vers16_any (fun e w' => e = .returned (.bool true) ∧ Below w.heap.size w w') w wr u5 u6 vs hB hV (fun e he => by have := hPs e he; omega) (by omega) (fun w' h => ⟨rfl, h⟩))
      have HF := Lib.hid (HF.out _ _ hV)
      clear hV HA
      repeat (first | exact HF.out _ _ _ _ _ _ _ _ _ _ _ _ _ _ _ _ _ _ _ _ _ _ _ _ _ _ _ _ _ _ _ _ _ _ _ _ _ _ _ _ _ _ _ _ _ _ _ _ _ _ _ _ _ _ _ _ _ _ _ _ _ _ _ _ _ _ _ _ _ _ _ _ _ _ _ _ _ _ _ _ _ _ _ _ _ _ _ _ _ _ _ _ _ _ _ _ _ _ _ _ _ _ | go_step)

/-! ### THE ROW's STEP -/
set_option maxRecDepth 100000 in
theorem lifted (os : Os) (started : os.Started) (H : Type) (enc : TypeId × Value → H) :
    ReturnsInHanded {} Try.checked os 5 .any (Rows.radixVersionsSpec.pre6 enc Try.prog Try.f5 Rows.radixVersionsRow.domain false) (Rows.radixVersionsSpec.post enc Try.prog Try.f5 false true false false) := by
  refine returnsInHanded_of_change (C := Try.checked) own started (by kernel_rfl) Try.func5
    (ChangeSpec.witness6 (enc := enc) (C := Try.checked) false ⟨#[], #[.slice none 0 0], []⟩ 8 (by kernel_rfl) (by kernel_rfl) (by kernel_rfl) (by kernel_rfl)) ?_
  intro W base args ds gs before hval0 hW hcnd _
  have hval : ∀ (j : Nat) t v, Try.f5.params[j]? = some t → args[j]? = some v → Value.okWide Try.prog W .any base t v := hval0
  have hW' := hW
  obtain ⟨p, q, hA0, hV, rfl, hfz, hnd⟩ := hW
  have hA : DataW.TrodAll enc Try.prog W 0 (fun _ => true) true Try.f5.params.toList args.toList ds p := hA0
  rw [Try.params5] at hA hval
  obtain ⟨v0, vs0, d0, ds0, p0, q0, hargs, rfl, rfl, h0, r0⟩ := trodAll_cons hA
  obtain ⟨rfl, rfl, rfl⟩ := trodAll_nil r0
  obtain rfl : args = #[v0] := by cases args; simp_all
  obtain ⟨rfl, rfl⟩ := trodVars_none hV
  obtain ⟨a0, len0, cap0, rfl⟩ := okWide_slice Try.underlying28 (hval 0 28 v0 rfl rfl)
  have k0 := h0
  have lt0 : ∀ x ∈ p0, x.block < W.heap.size := by obtain ⟨m, hm⟩ := k0; exact DataW.trod_lt m _ _ _ hm
  have w0 := open_acts h0
  clear hA0 hval0
  refine (walk a0 len0 cap0 W w0).mono fun e W' ⟨he, bel⟩ => ?_
  subst he
  exact ⟨_, rfl, _, _, _, [], _, [], hW', trodAll_mk1 (shut_bool Try.underlying4 _), (trodAll_cons_mk (Below.trod laidOut (by kernel_rfl) (of_decide_eq_true (by kernel_rfl)) k0 bel lt0) trodAll_mk0), rfl, bel.frame _, fun h => by cases h⟩

theorem over : Rows.radixVersionsRow.holds Try.pinned (OpenSpec.ofChange Rows.radixVersionsSpec) :=
  OpenClaim.holds_of_wide 5 Try.f5 rfl rfl rfl rfl rfl rfl rfl ⟨rfl, rfl, rfl, rfl, rfl⟩ rfl rfl rfl rfl rfl (by kernel_rfl) Try.func5 (by kernel_rfl)
    (of_decide_eq_true (by kernel_rfl)) (by unfold Func.isWrapper; first | (rw [if_pos (by decide +kernel)]; kernel_rfl) | (rw [if_neg (by decide +kernel)]; exact ⟨rfl, rfl⟩))
    (fun os started H enc _ => lifted os started H enc)

theorem proved : Rows.RadixVersionsSaid := over
#print axioms proved
end Go.Proofs.Ytchimfgbdfmegaa.radixVersions
