/- ChampOwns, part by part. -/
import Derived.Test.YtfmbikmpobieoaaGreatMOb
import Derived.BigQuiet
import Derived.Deep.RegionHeld3
namespace Go.Proofs.YtfmbikmpobieoaaGreat.champOwns
open Go.ChangeShapes Go.WideShapes Go.RowKit Go.Lib
set_option linter.unusedVariables false
set_option linter.unusedSimpArgs false
set_option maxRecDepth 100000
attribute [local irreducible] cnt
structure OS (k0 k1 m : Int) (w0 : World) (N4 N5 N6 : Nat) (Z : Nat → Prop) (w : World) (v5 v6 : Value) (all : List Ver) (ts : List (Nat × List Pr)) (us : List (Value × List Pr)) (n L : Nat) : Prop where
  hB : Below w0.heap.size w0 w
  vb : VB Z k0 k1 m w0.heap.size N5 N6 w v5 v6 (all.map (·.b)) (all.map (·.v)) ts us
  hH : Blk w N4 26 #[.int .u64 k0, .int .u64 k1, .int .u64 m]
  cov : ∀ e ∈ all, (e.b, e.ps) ∈ ts ∧ (e.v, e.ps) ∈ us
  vp : VerP n all
  len : all.length ≤ L
section
variable {k0 k1 m : Int} {w0 w w' : World} {N4 N5 N6 : Nat} {Z : Nat → Prop} {v5 v6 : Value} {all : List Ver} {ts : List (Nat × List Pr)} {us : List (Value × List Pr)} {n L : Nat}
theorem OS.below (h : OS k0 k1 m w0 N4 N5 N6 Z w v5 v6 all ts us n L) (hb : Below w.heap.size w w') : OS k0 k1 m w0 N4 N5 N6 Z w' v5 v6 all ts us n L :=
  ⟨h.hB.trans (hb.mono h.hB.size), h.vb.below hb, h.hH.below hb, h.cov, h.vp, h.len⟩
theorem growK_os (h0 : U64 k0) (h1 : U64 k1) (a : Option Addr) (len cap : Nat) (hA : ArgA w0 a len cap) (tk : Option Nat) (TA : Option Addr) (hpt : pt tk = .pointer TA) (b0 : Nat) (v0 : Value) (ps0 : List Pr) (n0 : Nat)
    (h : OS k0 k1 m w0 N4 N5 N6 Z w v5 v6 all ts us n L) (hN5 : w0.heap.size ≤ N5) (hN6 : w0.heap.size ≤ N6) (hv0 : TV w tk false) (hb : (b0, ps0) ∈ ts) (hvm : (v0, ps0) ∈ us) (hr0 : RisesL ps0) (hn : ps0.length ≤ n0) (hn0 : n0 + 20 ≤ n) (hnn : n ≤ 620) (hz0 : ∀ x ∈ ps0, x.1.size ≤ 40) (hL : L ≤ 1000) :
    Calls Tryz.prog 21 #[.slice a len cap, .pointer TA, .pointer (some ⟨b0, 0, none⟩), v0, .bool true, .pointer (some ⟨N4, 0, none⟩), .pointer (some ⟨N5, 0, none⟩), .pointer (some ⟨N6, 0, none⟩)] w fun e w' => ∃ (b' : Nat) (v' : Value), e = .returned (.tuple #[.pointer (some ⟨b', 0, none⟩), v']) ∧
      ∃ (vs : List Ver) (v5' v6' : Value) (ps' : List Pr), OS k0 k1 m w0 N4 N5 N6 Z w' v5' v6' (all ++ vs) (ts ++ vs.map fun e => (e.b, e.ps)) (us ++ vs.map fun e => (e.v, e.ps)) n (L + 20) ∧ (b', ps') ∈ ts ++ vs.map (fun e => (e.b, e.ps)) ∧ (v', ps') ∈ us ++ vs.map (fun e => (e.v, e.ps)) ∧ RisesL ps' ∧ ps'.length ≤ n0 + 20 ∧ (∀ x ∈ ps', x.1.size ≤ 40) ∧ KT w w' := by
  have hl := h.len
  refine (growK_any k0 k1 m w0 h0 h1 a len cap hA Z tk TA hpt N4 N5 N6 v5 v6 _ _ ts us b0 v0 ps0 n0 all.length w h.hB h.vb.x h.hH h.vb.b5 h.vb.b6 hN5 hN6 hv0 hb hvm hr0 hn (by omega) hz0 (by simp) (by simp) (by omega)).mono ?_
  rintro e w1 ⟨vs, v5', v6', b', v', ps', rfl, hVB, hb', hv', hr, hn', hz, hP, hvl, hK, hB⟩
  refine ⟨b', v', rfl, vs, v5', v6', ps', ⟨hB, by simpa using hVB, h.hH.kt hK (by decide), ?_, ?_, by rw [List.length_append]; omega⟩, hb', hv', hr, hn', hz, hK⟩
  · intro e he
    rcases List.mem_append.1 he with he | he
    · have := h.cov e he
      exact ⟨List.mem_append.2 (.inl this.1), List.mem_append.2 (.inl this.2)⟩
    · exact ⟨List.mem_append.2 (.inr (List.mem_map.2 ⟨e, he, rfl⟩)), List.mem_append.2 (.inr (List.mem_map.2 ⟨e, he, rfl⟩))⟩
  · intro e he
    rcases List.mem_append.1 he with he | he
    · exact h.vp e he
    · obtain ⟨a1, a2, a3⟩ := hP e he
      exact ⟨a1, by omega, a3⟩
end
theorem keep7 {w w' : World} {N2 N5 N6 g5 g6 i j : Nat} {a b c d e f g : Value} (h : w.cell? ⟨N2, 0, none⟩ = some a ∧ w.cell? ⟨N2, 1, none⟩ = some b ∧ w.cell? ⟨N2, 2, none⟩ = some c ∧ w.cell? ⟨N5, 0, none⟩ = some d ∧ w.cell? ⟨N6, 0, none⟩ = some e ∧ w.cell? ⟨g5, i, none⟩ = some f ∧ w.cell? ⟨g6, j, none⟩ = some g) (hb : Below w.heap.size w w') :
    w'.cell? ⟨N2, 0, none⟩ = some a ∧ w'.cell? ⟨N2, 1, none⟩ = some b ∧ w'.cell? ⟨N2, 2, none⟩ = some c ∧ w'.cell? ⟨N5, 0, none⟩ = some d ∧ w'.cell? ⟨N6, 0, none⟩ = some e ∧ w'.cell? ⟨g5, i, none⟩ = some f ∧ w'.cell? ⟨g6, j, none⟩ = some g := by
  obtain ⟨h1, h2, h3, h4, h5, h6, h7⟩ := h
  exact ⟨(hb.cell (World.block_lt_of_cell? w _ h1)).trans h1, (hb.cell (World.block_lt_of_cell? w _ h2)).trans h2, (hb.cell (World.block_lt_of_cell? w _ h3)).trans h3, (hb.cell (World.block_lt_of_cell? w _ h4)).trans h4, (hb.cell (World.block_lt_of_cell? w _ h5)).trans h5, (hb.cell (World.block_lt_of_cell? w _ h6)).trans h6, (hb.cell (World.block_lt_of_cell? w _ h7)).trans h7⟩
noncomputable def own16 : Code := (Tryz.f5.body.bind (fromRegion 16)).getD .skip
set_option maxHeartbeats 8000000 in
theorem own16_any (post : Ending → World → Prop) (k0 k1 m : Int) (w0 w : World) (h0 : U64 k0) (h1 : U64 k1) (N4 N5 N6 : Nat) (Z : Nat → Prop) (v5 v6 : Value) (all : List Ver) (ts : List (Nat × List Pr)) (us : List (Value × List Pr)) (n L : Nat) (hO : OS k0 k1 m w0 N4 N5 N6 Z w v5 v6 all ts us n L) (hn : n ≤ 700) (hL : L ≤ 10000)
    (hpost : ∀ w', Below w0.heap.size w0 w' → post (.returned (.bool true)) w') (x0 x1 x2 x3 x5 x6 x7 x8 x9 x10 x11 x12 x15 x16 x17 x18 x19 x20 x21 x22 x23 x24 x25 x26 x27 x28 x29 x30 x31 x32 x33 x34 x35 x36 x37 x38 x39 x40 x41 x42 x43 x44 x45 x46 x47 x48 x49 x50 x51 x52 x53 x54 x55 x56 x57 x58 x59 x60 x61 x62 x63 x64 x65 x66 x67 x68 x69 x70 x71 x72 x73 x74 x75 x76 x77 x78 x79 x80 x81 x82 x83 x84 x85 x86 x87 x88 x89 x90 x91 x92 x93 x94 x95 x96 x97 x98 x99 x100 x101 x102 : Value) :
    Code.wp Tryz.prog own16 (bodyPost Tryz.prog Tryz.f5 post) ⟨#[x0, x1, x2, x3, .pointer (some ⟨N4, 0, none⟩), x5, x6, x7, x8, x9, x10, x11, x12, .pointer (some ⟨N5, 0, none⟩), .pointer (some ⟨N6, 0, none⟩), x15, x16, x17, x18, x19, x20, x21, x22, x23, x24, x25, x26, x27, x28, x29, x30, x31, x32, x33, x34, x35, x36, x37, x38, x39, x40, x41, x42, x43, x44, x45, x46, x47, x48, x49, x50, x51, x52, x53, x54, x55, x56, x57, x58, x59, x60, x61, x62, x63, x64, x65, x66, x67, x68, x69, x70, x71, x72, x73, x74, x75, x76, x77, x78, x79, x80, x81, x82, x83, x84, x85, x86, x87, x88, x89, x90, x91, x92, x93, x94, x95, x96, x97, x98, x99, x100, x101, x102], []⟩ w := by
  obtain ⟨A5, c5, rfl⟩ := own_formN hO.vb.x.r5
  obtain ⟨A6, c6, rfl⟩ := own_formN hO.vb.x.r6
  obtain ⟨NV, hNV⟩ : ∃ NV, NV = all.length := ⟨_, rfl⟩
  have e5 : (all.map (·.b)).length = NV := by rw [List.length_map, hNV]
  have e6 : (all.map (·.v)).length = NV := by rw [List.length_map, hNV]
  have hl : NV ≤ 10000 := by rw [hNV]; exact Nat.le_trans hO.len hL
  rw [e5] at hO
  rw [e6] at hO
  have HPo := Lib.hid hpost
  have HPs := Lib.hid hO.vp
  have HCV := Lib.hid hO.cov
  have HNV := Lib.hid hNV
  have HE5 := Lib.hid e5
  have HE6 := Lib.hid e6
  clear hpost hNV e5 e6
  have d5 : w.cell? ⟨N5, 0, none⟩ = some (.slice A5 NV c5) := hO.vb.b5.cell 0
  simp only []
  conv => arg 2; whnf
  go_wp2_with fail
  go_loopw [88] (fun vi wr => ∃ j : Nat, j ≤ NV ∧ vi = .int .i64 j ∧ OS k0 k1 m w0 N4 N5 N6 Z wr (.slice A5 NV c5) (.slice A6 NV c6) all ts us n L) (fun vi wr => NV - (intOf vi).toNat)
  case atStart => exact ⟨0, by omega, rfl, hO⟩
  case round =>
    clear hO d5
    obtain ⟨j, hj, rfl, hO⟩ := hrel
    by_cases hlt : j < NV
    · have hjv : j < all.length := by rw [← HNV.out]; exact hlt
      obtain ⟨g5, c5', e5, z5⟩ := row_at hO.vb.x.r5 j (by rw [HE5.out]; exact hlt) (at0 all[j].b) (by simp [kcs, hjv])
      obtain ⟨g6, c6', e6, z6⟩ := row_at hO.vb.x.r6 j (by rw [HE6.out]; exact hlt) all[j].v (by simp [hjv])
      simp only [Value.slice.injEq] at e5 e6
      obtain ⟨rfl, -, rfl⟩ := e5
      obtain ⟨rfl, -, rfl⟩ := e6
      have hTk := hO.vb.x.eT _ (HCV.out _ (List.getElem_mem hjv)).1
      have hLk := hO.vb.x.eL _ (HCV.out _ (List.getElem_mem hjv)).2
      obtain ⟨hrk, hlk, hzk⟩ := HPs.out all[j] (List.getElem_mem _)
      generalize all[j].b = bk at *
      generalize all[j].v = vk at *
      generalize all[j].ps = pk at *
      obtain ⟨Ak, ck, evk, hRk⟩ := OwnR.rd hLk
      simp only at evk hTk hLk
      subst evk
      have kt := fun w' (hw : Below wr.heap.size wr w') => trie_X (A := Ak) (c := ck) (hTk.below hw) h0 h1 (hRk.below hw) (by omega) (fun x hx => Nat.le_trans (hzk x hx) (by omega))
      have L1 : (j : Int) < (NV : Int) := by omega
      have L2 : IntKind.i64.wrap ((j : Int) + 1) = ((j + 1 : Nat) : Int) := by rw [IntWalk.i64_in _ (by omega)]; omega
      unfold at0 at z5
      clear hTk hLk hRk
      go_upto_region 19 with (fail)
      have hS0 : (fun w' : World => w'.cell? ⟨N4, 0, none⟩ = some (.int .u64 k0) ∧ w'.cell? ⟨N4, 1, none⟩ = some (.int .u64 k1) ∧ w'.cell? ⟨N4, 2, none⟩ = some (.int .u64 m) ∧ w'.cell? ⟨N5, 0, none⟩ = some (.slice (some ⟨g5, 0, none⟩) NV c5) ∧ w'.cell? ⟨N6, 0, none⟩ = some (.slice (some ⟨g6, 0, none⟩) NV c6) ∧ w'.cell? ⟨g5, j, none⟩ = some (.pointer (some ⟨bk, 0, none⟩)) ∧ w'.cell? ⟨g6, j, none⟩ = some (.slice Ak pk.length ck)) wr.drew := ⟨hO.hH.cell 0, hO.hH.cell 1, hO.hH.cell 2, hO.vb.b5.cell 0, hO.vb.b6.cell 0, z5, z6⟩
      have hdr : Below wr.heap.size wr wr.drew := (Below.refl _ wr).drew
      have hO := hO.below hdr
      clear z5 z6
      refine wp_region_held_drew (S := fun w' : World => w'.cell? ⟨N4, 0, none⟩ = some (.int .u64 k0) ∧ w'.cell? ⟨N4, 1, none⟩ = some (.int .u64 k1) ∧ w'.cell? ⟨N4, 2, none⟩ = some (.int .u64 m) ∧ w'.cell? ⟨N5, 0, none⟩ = some (.slice (some ⟨g5, 0, none⟩) NV c5) ∧ w'.cell? ⟨N6, 0, none⟩ = some (.slice (some ⟨g6, 0, none⟩) NV c6) ∧ w'.cell? ⟨g5, j, none⟩ = some (.pointer (some ⟨bk, 0, none⟩)) ∧ w'.cell? ⟨g6, j, none⟩ = some (.slice Ak pk.length ck)) (by kernel_rfl) hS0 ?_
      intro hS
      refine wpAnyH_take (i := 0) (oi := { dst := some 91, op := Go.Op.load 26 (Go.Operand.tmp 4), type := 26, pos := "law.go:189", after := #[], guard := none }) (v := .agg #[.int .u64 k0, .int .u64 k1, .int .u64 m]) rfl (by kernel_rfl) (by kernel_rfl) (by kernel_rfl) (fun _ _ _ h => h) (Or.inl ⟨by rfl, fun w hSw => ?_⟩) hS ?_
      · go_split_ands
        go_simp
      try simp only [Act.put, List.setIfInBounds_toArray, List.set_cons_zero, List.set_cons_succ]
      refine wpAnyH_take (i := 1) (oi := { dst := some 92, op := Go.Op.load 49 (Go.Operand.tmp 13), type := 49, pos := "law.go:189", after := #[], guard := none }) (v := .slice (some ⟨g5, 0, none⟩) NV c5) rfl (by kernel_rfl) (by kernel_rfl) (by kernel_rfl) (fun _ _ _ h => h) (Or.inl ⟨by rfl, fun w hSw => ?_⟩) hS ?_
      · go_split_ands
        go_simp
      try simp only [Act.put, List.setIfInBounds_toArray, List.set_cons_zero, List.set_cons_succ]
      refine wpAnyH_take (i := 2) (oi := { dst := some 93, op := Go.Op.move (Go.Operand.tmp 20), type := 3, pos := "law.go:189", after := #[], guard := none }) (v := .int .i64 j) rfl (by kernel_rfl) (by kernel_rfl) (by kernel_rfl) (fun _ _ _ h => h) (Or.inl ⟨by rfl, fun w hSw => ?_⟩) hS ?_
      · go_split_ands
        go_simp
      try simp only [Act.put, List.setIfInBounds_toArray, List.set_cons_zero, List.set_cons_succ]
      refine wpAnyH_take (i := 3) (oi := { dst := some 94, op := Go.Op.indexAddr 49 (Go.Operand.tmp 92) (Go.Operand.tmp 93), type := 0, pos := "law.go:189", after := #[{ on := 1, ground := Go.Ground.data }, { on := 2, ground := Go.Ground.data }], guard := none }) (v := .pointer (some ⟨g5, j, none⟩)) rfl (by kernel_rfl) (by kernel_rfl) (by kernel_rfl) (fun _ _ _ h => h) (Or.inl ⟨by rfl, fun w hSw => ?_⟩) hS ?_
      · go_split_ands
        go_simp
      try simp only [Act.put, List.setIfInBounds_toArray, List.set_cons_zero, List.set_cons_succ]
      refine wpAnyH_take (i := 4) (oi := { dst := some 95, op := Go.Op.load 30 (Go.Operand.tmp 94), type := 30, pos := "law.go:189", after := #[{ on := 3, ground := Go.Ground.data }], guard := none }) (v := .pointer (some ⟨bk, 0, none⟩)) rfl (by kernel_rfl) (by kernel_rfl) (by kernel_rfl) (fun _ _ _ h => h) (Or.inl ⟨by rfl, fun w hSw => ?_⟩) hS ?_
      · go_split_ands
        go_simp
      try simp only [Act.put, List.setIfInBounds_toArray, List.set_cons_zero, List.set_cons_succ]
      refine wpAnyH_take (i := 5) (oi := { dst := some 96, op := Go.Op.load 50 (Go.Operand.tmp 14), type := 50, pos := "law.go:189", after := #[], guard := none }) (v := .slice (some ⟨g6, 0, none⟩) NV c6) rfl (by kernel_rfl) (by kernel_rfl) (by kernel_rfl) (fun _ _ _ h => h) (Or.inl ⟨by rfl, fun w hSw => ?_⟩) hS ?_
      · go_split_ands
        go_simp
      try simp only [Act.put, List.setIfInBounds_toArray, List.set_cons_zero, List.set_cons_succ]
      refine wpAnyH_take (i := 6) (oi := { dst := some 97, op := Go.Op.move (Go.Operand.tmp 20), type := 3, pos := "law.go:189", after := #[], guard := none }) (v := .int .i64 j) rfl (by kernel_rfl) (by kernel_rfl) (by kernel_rfl) (fun _ _ _ h => h) (Or.inl ⟨by rfl, fun w hSw => ?_⟩) hS ?_
      · go_split_ands
        go_simp
      try simp only [Act.put, List.setIfInBounds_toArray, List.set_cons_zero, List.set_cons_succ]
      refine wpAnyH_take (i := 7) (oi := { dst := some 98, op := Go.Op.indexAddr 50 (Go.Operand.tmp 96) (Go.Operand.tmp 97), type := 0, pos := "law.go:189", after := #[{ on := 5, ground := Go.Ground.data }, { on := 6, ground := Go.Ground.data }], guard := none }) (v := .pointer (some ⟨g6, j, none⟩)) rfl (by kernel_rfl) (by kernel_rfl) (by kernel_rfl) (fun _ _ _ h => h) (Or.inl ⟨by rfl, fun w hSw => ?_⟩) hS ?_
      · go_split_ands
        go_simp
      try simp only [Act.put, List.setIfInBounds_toArray, List.set_cons_zero, List.set_cons_succ]
      refine wpAnyH_take (i := 8) (oi := { dst := some 99, op := Go.Op.load 32 (Go.Operand.tmp 98), type := 32, pos := "law.go:189", after := #[{ on := 7, ground := Go.Ground.data }], guard := none }) (v := .slice Ak pk.length ck) rfl (by kernel_rfl) (by kernel_rfl) (by kernel_rfl) (fun _ _ _ h => h) (Or.inl ⟨by rfl, fun w hSw => ?_⟩) hS ?_
      · go_split_ands
        go_simp
      try simp only [Act.put, List.setIfInBounds_toArray, List.set_cons_zero, List.set_cons_succ]
      refine wpAnyH_ready (rs := [9]) (by kernel_rfl) (by simp) ?_
      refine AllReadyH.cons (o := { dst := some 100, op := Go.Op.call { callee := Go.Callee.value (Go.Operand.func 18), args := #[Go.Operand.tmp 91, Go.Operand.tmp 95, Go.Operand.tmp 99], argTypes := #[26, 30, 32] }, type := 4, pos := "law.go:189", after := #[{ on := 0, ground := Go.Ground.data }, { on := 4, ground := Go.Ground.data }, { on := 8, ground := Go.Ground.data }], guard := none }) rfl (fun K hK => ?_) AllReadyH.nil
      go_simp
      refine (kt _ hdr).mono ?_
      rintro e wA ⟨rfl, hBA⟩
      go_wp2_with fail
      have hSn := keep7 hS hBA
      refine hK.out _ _ hSn (fun _ => ?_)
      clear hK K hS
      try simp only [Act.put, List.setIfInBounds_toArray, List.set_cons_zero, List.set_cons_succ]
      have hS := hSn
      clear hSn
      have hO := hO.below hBA
      clear hBA
      refine wpAnyH_take (i := 10) (oi := { dst := some 101, op := Go.Op.unOp Go.UnOp.not 4 (Go.Operand.tmp 100), type := 4, pos := "law.go:189", after := #[{ on := 9, ground := Go.Ground.data }], guard := none }) (v := .bool false) rfl (by kernel_rfl) (by kernel_rfl) (by kernel_rfl) (fun _ _ _ h => h) (Or.inl ⟨by rfl, fun w hSw => ?_⟩) hS ?_
      · go_split_ands
        go_simp
      try simp only [Act.put, List.setIfInBounds_toArray, List.set_cons_zero, List.set_cons_succ]
      refine wpAnyH_done (by kernel_rfl) ?_ _

      clear hS kt hdr
      go_wp2_with fail
      exact ⟨⟨j + 1, by omega, by go_num, hO⟩, by simp [intOf]; omega⟩
    · obtain rfl : j = NV := by omega
      have G : ¬ ((j : Int) < (j : Int)) := by omega
      go_wp2_with fail
      exact HPo.out _ hO.hB
noncomputable def own15 : Code := (Tryz.f5.body.bind (fromRegion 15)).getD .skip
set_option maxHeartbeats 8000000 in
theorem own15_any (post : Ending → World → Prop) (k0 k1 m : Int) (w0 w : World) (h0 : U64 k0) (h1 : U64 k1) (N4 N5 N6 : Nat) (v5 v6 : Value) (all : List Ver) (ts : List (Nat × List Pr)) (us : List (Value × List Pr)) (n L : Nat) (hO : OS k0 k1 m w0 N4 N5 N6 (fun _ => False) w v5 v6 all ts us n L) (hN5 : w0.heap.size ≤ N5) (hN6 : w0.heap.size ≤ N6) (hn : 60 ≤ n ∧ n ≤ 620) (hL : L ≤ 900) (am : Option Addr) (lenm capm : Nat) (hAm : ArgA w0 am lenm capm)
    (T b2 : Nat) (A2 : Option Addr) (c2 : Nat) (ps2 : List Pr) (hv : TV w (some T) false) (hb : (b2, ps2) ∈ ts) (hvm : ((.slice A2 ps2.length c2 : Value), ps2) ∈ us) (hr2 : RisesL ps2) (hn2 : ps2.length ≤ 40) (hz2 : ∀ x ∈ ps2, x.1.size ≤ 40)
    (hpost : ∀ w', Below w0.heap.size w0 w' → post (.returned (.bool true)) w') (x0 x1 x3 x5 x6 x7 x8 x9 x10 x12 x16 x17 x20 x21 x22 x23 x24 x25 x26 x27 x28 x29 x30 x31 x32 x33 x34 x35 x36 x37 x38 x39 x40 x41 x42 x43 x44 x45 x46 x47 x48 x49 x50 x51 x52 x53 x54 x55 x56 x57 x58 x59 x60 x61 x62 x63 x64 x65 x66 x67 x68 x69 x70 x71 x72 x73 x74 x75 x76 x77 x78 x79 x80 x81 x82 x83 x84 x85 x86 x87 x88 x89 x90 x91 x92 x93 x94 x95 x96 x97 x98 x99 x100 x101 x102 : Value) :
    Code.wp Tryz.prog own15 (bodyPost Tryz.prog Tryz.f5 post) ⟨#[x0, x1, .slice am lenm capm, x3, .pointer (some ⟨N4, 0, none⟩), x5, x6, x7, x8, x9, x10, .pointer (some ⟨T, 0, none⟩), x12, .pointer (some ⟨N5, 0, none⟩), .pointer (some ⟨N6, 0, none⟩), .func (.func 21) #[] #[.pointer (some ⟨N4, 0, none⟩), .pointer (some ⟨N5, 0, none⟩), .pointer (some ⟨N6, 0, none⟩)], x16, x17, .pointer (some ⟨b2, 0, none⟩), .slice A2 ps2.length c2, x20, x21, x22, x23, x24, x25, x26, x27, x28, x29, x30, x31, x32, x33, x34, x35, x36, x37, x38, x39, x40, x41, x42, x43, x44, x45, x46, x47, x48, x49, x50, x51, x52, x53, x54, x55, x56, x57, x58, x59, x60, x61, x62, x63, x64, x65, x66, x67, x68, x69, x70, x71, x72, x73, x74, x75, x76, x77, x78, x79, x80, x81, x82, x83, x84, x85, x86, x87, x88, x89, x90, x91, x92, x93, x94, x95, x96, x97, x98, x99, x100, x101, x102], []⟩ w := by
  have kg := growK_os h0 h1 am lenm capm hAm (some T) (some ⟨T, 0, none⟩) rfl b2 (.slice A2 ps2.length c2) ps2 40 hO hN5 hN6 hv hb hvm hr2 hn2 (by omega) hn.2 hz2 (by omega)
  have HF := Lib.hid (fun wr v5 v6 all ts us hO => own16_any post k0 k1 m w0 wr h0 h1 N4 N5 N6 (fun _ => False) v5 v6 all ts us n (L + 20) hO (by omega) (by omega) hpost)
  clear hpost hAm hO hb hvm hv hr2 hz2
  simp only []
  conv => arg 2; whnf
  go_wp2_with fail
  refine kg.mono ?_
  rintro e w1 ⟨b', v', rfl, vs, v5', v6', ps', hO, -⟩
  have HFF := Lib.hid (HF.out w1 v5' v6' _ _ _ hO)
  clear HF hO kg
  dsimp only
  repeat (first | exact HFF.out _ _ _ _ _ _ _ _ _ _ _ _ _ _ _ _ _ _ _ _ _ _ _ _ _ _ _ _ _ _ _ _ _ _ _ _ _ _ _ _ _ _ _ _ _ _ _ _ _ _ _ _ _ _ _ _ _ _ _ _ _ _ _ _ _ _ _ _ _ _ _ _ _ _ _ _ _ _ _ _ _ _ _ _ _ _ _ _ _ _ _ _ _ _ _ _ _ _ _ _ | go_step)
end Go.Proofs.YtfmbikmpobieoaaGreat.champOwns
/- ChampOwns, part by part. -/
namespace Go.Proofs.YtfmbikmpobieoaaGreat.champOwns
open Go.ChangeShapes Go.WideShapes Go.RowKit Go.Lib
set_option linter.unusedVariables false
set_option linter.unusedSimpArgs false
set_option maxRecDepth 100000
attribute [local irreducible] cnt
theorem far_end {w : World} {g : Nat} {t : TypeId} {cs : Array Value} {P c T k i : Nat} {out : Int} {q : List Nat} {l : Bool} (hB : Blk w g t cs) (ht : t ≠ 90 ∧ t ≠ 92) (hP : Pool w P c k out q) (hT : Tok w T P i l) : g ∉ [P, c, T] := fun hm => by
  obtain ⟨hbp, s, r, hc⟩ := hP
  simp only [List.mem_cons, List.not_mem_nil, or_false] at hm
  unfold Tok at hT
  unfold Blk at hbp hT hB
  rcases hm with rfl | rfl | rfl
  · rw [hbp] at hB; simp at hB; exact ht.1 hB.2.symm
  · rw [hc] at hB; simp at hB
  · rw [hT] at hB; simp at hB; exact ht.2 hB.2.symm
theorem OS.ended {k0 k1 m : Int} {w0 w w' : World} {N4 N5 N6 : Nat} {Z : Nat → Prop} {v5 v6 : Value} {all : List Ver} {ts : List (Nat × List Pr)} {us : List (Value × List Pr)} {n L : Nat} (h : OS k0 k1 m w0 N4 N5 N6 Z w v5 v6 all ts us n L) {P c T k i : Nat} {out : Int} {q : List Nat} {l : Bool} (kk : Keep [P, c, T] w w') (hP : Pool w P c k out q) (hT : Tok w T P i l) (hT' : Tok w' T P i false) (hb : w0.heap.size ≤ P ∧ w0.heap.size ≤ c ∧ w0.heap.size ≤ T) : OS k0 k1 m w0 N4 N5 N6 Z w' v5 v6 all ts us n L :=
  ⟨h.hB.trans (kk.below h.hB.size (by simp; exact hb)), ⟨h.vb.x.ended kk hP hT hT', h.vb.b5.keep kk (far_end h.vb.b5 (by decide) hP hT), h.vb.b6.keep kk (far_end h.vb.b6 (by decide) hP hT)⟩, h.hH.keep kk (far_end h.hH (by decide) hP hT), h.cov, h.vp, h.len⟩
noncomputable def own13 : Code := (Tryz.f5.body.bind (fromRegion 13)).getD .skip
set_option maxHeartbeats 16000000 in
theorem own13_any (post : Ending → World → Prop) (k0 k1 m : Int) (w0 w : World) (h0 : U64 k0) (h1 : U64 k1) (N4 N5 N6 : Nat) (v5 v6 : Value) (all : List Ver) (ts : List (Nat × List Pr)) (us : List (Value × List Pr)) (n L : Nat) (hO : OS k0 k1 m w0 N4 N5 N6 (fun _ => False) w v5 v6 all ts us n L) (hN5 : w0.heap.size ≤ N5) (hN6 : w0.heap.size ≤ N6) (hn : 60 ≤ n ∧ n ≤ 620) (hL : L ≤ 800) (am : Option Addr) (lenm capm : Nat) (hAm : ArgA w0 am lenm capm) (P c T b2 : Nat) (hPo : Pool w P c 1 1 []) (hTk : Tok w T P 1 true) (hbP : w0.heap.size ≤ P ∧ w0.heap.size ≤ c ∧ w0.heap.size ≤ T) (A2 : Option Addr) (c2 : Nat) (ps2 : List Pr) (hb : (b2, ps2) ∈ ts) (hvm : ((.slice A2 ps2.length c2 : Value), ps2) ∈ us) (hr2 : RisesL ps2) (hn2 : ps2.length ≤ 40) (hz2 : ∀ x ∈ ps2, x.1.size ≤ 40)
    (hpost : ∀ w', Below w0.heap.size w0 w' → post (.returned (.bool true)) w') (x0 x1 x3 x5 x6 x7 x8 x10 x12 x16 x17 x20 x21 x22 x23 x24 x25 x26 x27 x28 x29 x30 x31 x32 x33 x34 x35 x36 x37 x38 x39 x40 x41 x42 x43 x44 x45 x46 x47 x48 x49 x50 x51 x52 x53 x54 x55 x56 x57 x58 x59 x60 x61 x62 x63 x64 x65 x66 x67 x68 x69 x70 x71 x72 x73 x74 x75 x76 x77 x78 x79 x80 x81 x82 x83 x84 x85 x86 x87 x88 x89 x90 x91 x92 x93 x94 x95 x96 x97 x98 x99 x100 x101 x102 : Value) :
    Code.wp Tryz.prog own13 (bodyPost Tryz.prog Tryz.f5 post) ⟨#[x0, x1, .slice am lenm capm, x3, .pointer (some ⟨N4, 0, none⟩), x5, x6, x7, x8, .pointer (some ⟨P, 0, none⟩), x10, .pointer (some ⟨T, 0, none⟩), x12, .pointer (some ⟨N5, 0, none⟩), .pointer (some ⟨N6, 0, none⟩), .func (.func 21) #[] #[.pointer (some ⟨N4, 0, none⟩), .pointer (some ⟨N5, 0, none⟩), .pointer (some ⟨N6, 0, none⟩)], x16, x17, .pointer (some ⟨b2, 0, none⟩), .slice A2 ps2.length c2, x20, x21, x22, x23, x24, x25, x26, x27, x28, x29, x30, x31, x32, x33, x34, x35, x36, x37, x38, x39, x40, x41, x42, x43, x44, x45, x46, x47, x48, x49, x50, x51, x52, x53, x54, x55, x56, x57, x58, x59, x60, x61, x62, x63, x64, x65, x66, x67, x68, x69, x70, x71, x72, x73, x74, x75, x76, x77, x78, x79, x80, x81, x82, x83, x84, x85, x86, x87, x88, x89, x90, x91, x92, x93, x94, x95, x96, x97, x98, x99, x100, x101, x102], []⟩ w := by
  obtain ⟨i30, hi30, hy300, hy301, hy302⟩ := info_parts info30
  obtain ⟨i32, hi32, hy320, hy321, hy322⟩ := info_parts info32
  have kE := end_ok P c 1 1 [] T 1 w hPo hTk (by simp) (by omega)
  unfold at0 at kE
  have HF := Lib.hid (fun wr v5 v6 all ts us (hO : OS k0 k1 m w0 N4 N5 N6 (fun _ => False) wr v5 v6 all ts us n (L + 1)) hv => fun (hb : (b2, ps2) ∈ ts) (hvm : ((.slice A2 ps2.length c2 : Value), ps2) ∈ us) => own15_any post k0 k1 m w0 wr h0 h1 N4 N5 N6 v5 v6 all ts us n (L + 1) hO hN5 hN6 hn (by omega) am lenm capm hAm T b2 A2 c2 ps2 hv hb hvm hr2 hn2 hz2 hpost)
  replace HF := Lib.hid (fun wr v5 v6 all' (ts' : List (Nat × List Pr)) (us' : List (Value × List Pr)) (h : ts' = ts ∧ us' = us) hO hv => HF.out wr v5 v6 all' ts' us' hO hv (by rw [h.1]; exact hb) (by rw [h.2]; exact hvm))
  replace HF := Lib.hid (fun wr v5 v6 all' => HF.out wr v5 v6 all' ts us ⟨rfl, rfl⟩)
  have HR2 := Lib.hid (⟨hr2, hz2⟩ : RisesL ps2 ∧ ∀ x ∈ ps2, x.1.size ≤ 40)
  clear hpost hAm hr2 hz2
  simp only []
  conv => arg 2; whnf
  go_wp2_with fail
  refine kE.mono ?_
  rintro e w1 ⟨rfl, hPo1, hTk1, -, hKE⟩
  have hO := hO.ended hKE hPo hTk hTk1 hbP
  have HTk := Lib.hid hTk1
  clear kE hPo hTk hPo1 hTk1 hKE
  obtain ⟨A5, c5, rfl⟩ := own_formN hO.vb.x.r5
  obtain ⟨A6, c6, rfl⟩ := own_formN hO.vb.x.r6
  obtain ⟨NV, hNV⟩ : ∃ NV, NV = all.length := ⟨_, rfl⟩
  have e5 : (all.map (·.b)).length = NV := by rw [List.length_map, hNV]
  have e6 : (all.map (·.v)).length = NV := by rw [List.length_map, hNV]
  have hNVb : NV ≤ 800 := by rw [hNV]; exact Nat.le_trans hO.len hL
  rw [e5] at hO
  rw [e6] at hO
  have hV := hO.vb.x
  have h5 := hO.vb.b5
  have h6 := hO.vb.b6
  have hB := hO.hB
  have HH := Lib.hid hO.hH
  have HO := Lib.hid hO
  obtain ⟨bs, hbs⟩ : ∃ bs, bs = all.map (·.b) := ⟨_, rfl⟩
  obtain ⟨ls, hls⟩ : ∃ ls, ls = all.map (·.v) := ⟨_, rfl⟩
  have HSN := Lib.hid (fun (W : World) (gn5 cn5 gn6 cn6 : Nat) (hB : Below w0.heap.size w0 W) (h : VX (fun _ => False) k0 k1 m w0.heap.size W (.slice (some ⟨gn5, 0, none⟩) (NV + 1) cn5) (.slice (some ⟨gn6, 0, none⟩) (NV + 1) cn6) (bs ++ [b2]) (ls ++ [.slice A2 ps2.length c2]) ts us) (h5 : Blk W N5 49 #[.slice (some ⟨gn5, 0, none⟩) (NV + 1) cn5]) (h6 : Blk W N6 50 #[.slice (some ⟨gn6, 0, none⟩) (NV + 1) cn6]) (hH : Blk W N4 26 #[.int .u64 k0, .int .u64 k1, .int .u64 m]) =>
    (⟨hB, ⟨by rw [hbs, hls] at h; simpa using h, h5, h6⟩, hH, fun e he => by
      rcases List.mem_append.1 he with he | he
      · exact HO.out.cov e he
      · rw [List.mem_singleton] at he; subst he; exact ⟨hb, hvm⟩, fun e he => by
      rcases List.mem_append.1 he with he | he
      · exact HO.out.vp e he
      · rw [List.mem_singleton] at he; subst he; exact ⟨HR2.out.1, (by show ps2.length ≤ n; omega), HR2.out.2⟩, by rw [List.length_append]; have := HO.out.len; simp; omega⟩ : OS k0 k1 m w0 N4 N5 N6 (fun _ => False) W (.slice (some ⟨gn5, 0, none⟩) (NV + 1) cn5) (.slice (some ⟨gn6, 0, none⟩) (NV + 1) cn6) (all ++ [⟨b2, .slice A2 ps2.length c2, ps2⟩]) ts us n (L + 1)))
  rw [← hbs, ← hls] at hV
  rw [← hbs] at e5
  rw [← hls] at e6
  have HBL := Lib.hid e5
  have HLL := Lib.hid e6
  have hK0 := KT.refl w1
  clear hO hNV hbs hls e5 e6 hb hvm HO
  obtain ⟨W, hW⟩ : ∃ W, W = w1 := ⟨_, rfl⟩
  subst hW
  dsimp only
  go_upto_region 14 with (fail)
  refine wp_region_late (S := fun w' => w'.cell? ⟨N5, 0, none⟩ = some (.slice A5 NV c5) ∧ w'.cell? ⟨N6, 0, none⟩ = some (.slice A6 NV c6)) (st := 8) (by kernel_rfl) ?_
  have hS : (fun w' : World => w'.cell? ⟨N5, 0, none⟩ = some (.slice A5 NV c5) ∧ w'.cell? ⟨N6, 0, none⟩ = some (.slice A6 NV c6)) W.drew := ⟨h5.cell 0, h6.cell 0⟩
  have hdr2 : Below W.heap.size W W.drew := (Below.refl _ W).drew
  have hV := hV.below hdr2
  have h5 := h5.below hdr2
  have h6 := h6.below hdr2
  have hK0 := hK0.trans (KT.ofBelow hdr2)
  have hB := hB.drew
  clear hdr2
  generalize W.drew = Wd at *
  refine wpAnyL_take (i := 0) (oi := { dst := some 72, op := Go.Op.load 49 (Go.Operand.tmp 13), type := 49, pos := "law.go:186", after := #[], guard := none }) (v := .slice A5 NV c5) rfl (by kernel_rfl) (by kernel_rfl) (by kernel_rfl) (by kernel_rfl) (fun _ _ _ h => h) hS (Or.inl ⟨by rfl, fun w hSw => ?_⟩) ?_
  · go_split_ands
    go_simp
  try simp only [Act.put, List.setIfInBounds_toArray, List.set_cons_zero, List.set_cons_succ]
  refine wpAnyL_take0 (i := 1) (oi := { dst := some 73, op := Go.Op.move (Go.Operand.tmp 18), type := 30, pos := "law.go:186", after := #[], guard := none }) (v := .pointer (some ⟨b2, 0, none⟩)) rfl (by kernel_rfl) (by kernel_rfl) (by kernel_rfl) (by kernel_rfl) (fun _ _ _ h => h) hS (Or.inl ⟨by rfl, fun w hSw => ?_⟩) ?_
  · go_split_ands
    go_simp
  try simp only [Act.put, List.setIfInBounds_toArray, List.set_cons_zero, List.set_cons_succ]
  refine wpAnyL_take2 (i := 4) (oi := { dst := some 76, op := Go.Op.load 50 (Go.Operand.tmp 14), type := 50, pos := "law.go:186", after := #[], guard := none }) (v := .slice A6 NV c6) 7 rfl (by kernel_rfl) (by kernel_rfl) (by kernel_rfl) (by kernel_rfl) (fun _ _ _ h => h) hS (Or.inl ⟨by rfl, fun w hSw => ?_⟩) ?_
  · go_split_ands
    go_simp
  try simp only [Act.put, List.setIfInBounds_toArray, List.set_cons_zero, List.set_cons_succ]
  refine wpAnyL_take0 (i := 5) (oi := { dst := some 77, op := Go.Op.move (Go.Operand.tmp 19), type := 32, pos := "law.go:186", after := #[], guard := none }) (v := .slice A2 ps2.length c2) rfl (by kernel_rfl) (by kernel_rfl) (by kernel_rfl) (by kernel_rfl) (fun _ _ _ h => h) hS (Or.inl ⟨by rfl, fun w hSw => ?_⟩) ?_
  · go_split_ands
    go_simp
  try simp only [Act.put, List.setIfInBounds_toArray, List.set_cons_zero, List.set_cons_succ]
  refine wpAnyL_ready (rs := [2, 6]) (by kernel_rfl) (by simp) ?_
  refine AllReadyL.cons (o := { dst := some 74, op := Go.Op.buildSlice 49 1 #[(0, Go.Operand.tmp 73)], type := 49, pos := "law.go:186", after := #[{ on := 1, ground := Go.Ground.data }], guard := none }) rfl (fun K' hK => ?_) (AllReadyL.cons (o := { dst := some 78, op := Go.Op.buildSlice 50 1 #[(0, Go.Operand.tmp 77)], type := 50, pos := "law.go:186", after := #[{ on := 5, ground := Go.Ground.data }], guard := none }) rfl (fun K' hK => ?_) AllReadyL.nil)
  · go_simp
    have hBl := (Below.refl _ Wd).alloc (Nat.le_refl _) (.cells #[.pointer (some ⟨b2, 0, none⟩)] 30)
    have na : Blk (Wd.alloc (.cells #[.pointer (some ⟨b2, 0, none⟩)] 30)) Wd.heap.size 30 #[.pointer (some ⟨b2, 0, none⟩)] := Blk.new Wd 30 #[.pointer (some ⟨b2, 0, none⟩)]
    have hV := hV.below hBl
    have h5 := h5.below hBl
    have h6 := h6.below hBl
    have hK0 := hK0.trans (KT.ofBelow hBl)
    have hB := hB.trans (hBl.mono hB.size)
    skip
    refine hK.out _ _ (fun _ => ⟨h5.cell 0, h6.cell 0⟩) ?_
    clear hK K' hS hBl
    try simp only [Act.put, List.setIfInBounds_toArray, List.set_cons_zero, List.set_cons_succ]
    generalize Wd.alloc (.cells #[.pointer (some ⟨b2, 0, none⟩)] 30) = Wa at *
    generalize Wd.heap.size = Ba at *
    have hS : (fun w' : World => w'.cell? ⟨N5, 0, none⟩ = some (.slice A5 NV c5) ∧ w'.cell? ⟨N6, 0, none⟩ = some (.slice A6 NV c6)) Wa := ⟨h5.cell 0, h6.cell 0⟩
    refine wpAnyL_ready (rs := [3, 6]) (by kernel_rfl) (by simp) ?_
    refine AllReadyL.cons (o := { dst := some 75, op := Go.Op.call { callee := Go.Callee.builtin Go.Builtin.append, args := #[Go.Operand.tmp 72, Go.Operand.tmp 74], argTypes := #[49, 49] }, type := 49, pos := "law.go:186", after := #[{ on := 0, ground := Go.Ground.data }, { on := 2, ground := Go.Ground.data }], guard := none }) rfl (fun K' hK => ?_) (AllReadyL.cons (o := { dst := some 78, op := Go.Op.buildSlice 50 1 #[(0, Go.Operand.tmp 77)], type := 50, pos := "law.go:186", after := #[{ on := 5, ground := Go.Ground.data }], guard := none }) rfl (fun K' hK => ?_) AllReadyL.nil)
    · refine step_append_lies _ (by rfl) _ _ _ (by rfl) w0.heap.size 30 i30 _ 1 8 Tryz.underlying49 hi30 hy300 hy301 hy302 zsz_ptr (by decide) (.slice A5 NV c5) NV (kcs bs) (by rfl) (by have := hV.r5; rw [HBL.out] at this; exact this) ⟨Ba, 0, none⟩ 1 1 [.pointer (some ⟨b2, 0, none⟩)] (by rfl) rfl (World.news_of_block na) (by simp [Value.oneCell']) (by omega) (by unfold maxLen; omega) (by omega) hV.hb _ rfl ?_
      intro gn5 cn5 Wb hown1 hgrow1 hat1 hlt1
      have hV2 := hV.grow5 (g := gn5) (cap := cn5) (b := b2) hgrow1 (by rw [HBL.out]; exact hown1) hat1
      have h52 := hV.far5 hgrow1 h5 (by decide)
      have h62 := hV.far5 hgrow1 h6 (by decide)
      skip
      have hK2 := hK0.trans (KT.grown hV.r5 hgrow1 (.inl rfl))
      have hBn := hB.grown hgrow1 hB.size (own_ge hV.r5)
      rw [HBL.out] at hV2
      refine hK.out _ _ (fun _ => ⟨h52.cell 0, h62.cell 0⟩) ?_
      clear hK K' hS hgrow1 hat1 hlt1 hown1 na hV h5 h6 hB hK0
      try simp only [Act.put, List.setIfInBounds_toArray, List.set_cons_zero, List.set_cons_succ]
      have hV := hV2
      have h5 := h52
      have h6 := h62
      have hB := hBn
      have hK0 := hK2
      clear hV2 h52 h62 hBn hK2
      have hS : (fun w' : World => w'.cell? ⟨N5, 0, none⟩ = some (.slice A5 NV c5) ∧ w'.cell? ⟨N6, 0, none⟩ = some (.slice A6 NV c6)) Wb := ⟨h5.cell 0, h6.cell 0⟩
      refine wpAnyL_ready (rs := [6]) (by kernel_rfl) (by simp) ?_
      refine AllReadyL.cons (o := { dst := some 78, op := Go.Op.buildSlice 50 1 #[(0, Go.Operand.tmp 77)], type := 50, pos := "law.go:186", after := #[{ on := 5, ground := Go.Ground.data }], guard := none }) rfl (fun K' hK => ?_) AllReadyL.nil
      go_simp
      have hBl := (Below.refl _ Wb).alloc (Nat.le_refl _) (.cells #[.slice A2 ps2.length c2] 32)
      have nb : Blk (Wb.alloc (.cells #[.slice A2 ps2.length c2] 32)) Wb.heap.size 32 #[.slice A2 ps2.length c2] := Blk.new Wb 32 #[.slice A2 ps2.length c2]
      have hV := hV.below hBl
      have h5 := h5.below hBl
      have h6 := h6.below hBl
      have hK0 := hK0.trans (KT.ofBelow hBl)
      have hB := hB.trans (hBl.mono hB.size)
      skip
      refine hK.out _ _ (fun _ => ⟨h5.cell 0, h6.cell 0⟩) ?_
      clear hK K' hS hBl
      try simp only [Act.put, List.setIfInBounds_toArray, List.set_cons_zero, List.set_cons_succ]
      generalize Wb.alloc (.cells #[.slice A2 ps2.length c2] 32) = Wc at *
      generalize Wb.heap.size = Bb at *
      have hS : (fun w' : World => w'.cell? ⟨N5, 0, none⟩ = some (.slice A5 NV c5) ∧ w'.cell? ⟨N6, 0, none⟩ = some (.slice A6 NV c6)) Wc := ⟨h5.cell 0, h6.cell 0⟩
      refine wpAnyL_ready (rs := [7]) (by kernel_rfl) (by simp) ?_
      refine AllReadyL.cons (o := { dst := some 79, op := Go.Op.call { callee := Go.Callee.builtin Go.Builtin.append, args := #[Go.Operand.tmp 76, Go.Operand.tmp 78], argTypes := #[50, 50] }, type := 50, pos := "law.go:186", after := #[{ on := 4, ground := Go.Ground.data }, { on := 6, ground := Go.Ground.data }, { on := 3, ground := Go.Ground.chain }], guard := none }) rfl (fun K' hK => ?_) AllReadyL.nil
      refine step_append_lies _ (by rfl) _ _ _ (by rfl) w0.heap.size 32 i32 _ 1 24 Tryz.underlying50 hi32 hy320 hy321 hy322 zsz_sl (by decide) (.slice A6 NV c6) NV ls (by rfl) (by have := hV.r6; rw [HLL.out] at this; exact this) ⟨Bb, 0, none⟩ 1 1 [.slice A2 ps2.length c2] (by rfl) rfl (World.news_of_block nb) (by simp [Value.oneCell']) (by omega) (by unfold maxLen; omega) (by omega) hV.hb _ rfl ?_
      intro gn6 cn6 We hown1 hgrow1 hat1 hlt1
      have hV2 := hV.grow6 (g := gn6) (cap := cn6) (u := .slice A2 ps2.length c2) hgrow1 (by rw [HLL.out]; exact hown1)
      have h52 := hV.far6 hgrow1 h5 (by decide)
      have h62 := hV.far6 hgrow1 h6 (by decide)
      have hK2 := hK0.trans (KT.grown hV.r6 hgrow1 (.inr (.inl rfl)))
      have hBn := hB.grown hgrow1 hB.size (own_ge hV.r6)
      rw [HLL.out] at hV2
      refine hK.out _ _ (fun _ => ⟨h52.cell 0, h62.cell 0⟩) ?_
      clear hK K' hS hgrow1 hat1 hlt1 hown1 nb hV h5 h6 hB hK0
      try simp only [Act.put, List.setIfInBounds_toArray, List.set_cons_zero, List.set_cons_succ]
      have hV := hV2
      have h5 := h52
      have h6 := h62
      have hB := hBn
      have hK0 := hK2
      clear hV2 h52 h62 hBn hK2
      have hne := box_ne h5 h6
      have c5c := h5.cell 0
      have c5f := h5.frozen 0
      refine wpAnyL_ready (rs := [8]) (by kernel_rfl) (by simp) ?_
      refine AllReadyL.cons (o := { dst := none, op := Go.Op.store 49 (Go.Operand.tmp 13) (Go.Operand.tmp 75), type := 0, pos := "law.go:186", after := #[{ on := 3, ground := Go.Ground.data }, { on := 7, ground := Go.Ground.chain }, { on := 0, ground := Go.Ground.phase }, { on := 1, ground := Go.Ground.phase }, { on := 2, ground := Go.Ground.phase }, { on := 3, ground := Go.Ground.phase }, { on := 4, ground := Go.Ground.textOnly Go.Departure.inlinedCapture }, { on := 5, ground := Go.Ground.textOnly Go.Departure.lateStores }, { on := 6, ground := Go.Ground.textOnly Go.Departure.inlinedCapture }, { on := 7, ground := Go.Ground.textOnly Go.Departure.lateStoresUnsure }], guard := none }) rfl (fun K' hK => ?_) AllReadyL.nil
      go_simp
      refine hK.out _ _ (late_no (by kernel_rfl)) ?_
      clear hK K' c5c c5f
      try simp only [Act.put, List.setIfInBounds_toArray, List.set_cons_zero, List.set_cons_succ]
      have kp := (Keep.refl [N5] We).setCell (p := ⟨N5, 0, none⟩) (by simp) (.slice (some ⟨gn5, 0, none⟩) (NV + 1) cn5)
      have hV := hV.far h5 (by decide) kp
      have hK0 := hK0.trans (KT.one h5 (.inr (.inr (.inl rfl))) kp)
      have hB := hB.setCell (p := ⟨N5, 0, none⟩) hN5 (.slice (some ⟨gn5, 0, none⟩) (NV + 1) cn5)
      have h6 := h6.far (p := ⟨N5, 0, none⟩) hne (.slice (some ⟨gn5, 0, none⟩) (NV + 1) cn5)
      have h5 : Blk (We.setCell ⟨N5, 0, none⟩ (.slice (some ⟨gn5, 0, none⟩) (NV + 1) cn5)) N5 49 #[.slice (some ⟨gn5, 0, none⟩) (NV + 1) cn5] := h5.set_ 0 (.slice (some ⟨gn5, 0, none⟩) (NV + 1) cn5)
      clear kp
      generalize We.setCell ⟨N5, 0, none⟩ (.slice (some ⟨gn5, 0, none⟩) (NV + 1) cn5) = Wf at *
      have c6c := h6.cell 0
      have c6f := h6.frozen 0
      refine wpAnyL_ready (rs := [9]) (by kernel_rfl) (by simp) ?_
      refine AllReadyL.cons (o := { dst := none, op := Go.Op.store 50 (Go.Operand.tmp 14) (Go.Operand.tmp 79), type := 0, pos := "law.go:186", after := #[{ on := 7, ground := Go.Ground.data }, { on := 8, ground := Go.Ground.chain }, { on := 0, ground := Go.Ground.phase }, { on := 1, ground := Go.Ground.phase }, { on := 2, ground := Go.Ground.phase }, { on := 3, ground := Go.Ground.phase }, { on := 4, ground := Go.Ground.phase }, { on := 5, ground := Go.Ground.phase }, { on := 6, ground := Go.Ground.phase }, { on := 7, ground := Go.Ground.phase }, { on := 8, ground := Go.Ground.phase }], guard := none }) rfl (fun K' hK => ?_) AllReadyL.nil
      go_simp
      refine hK.out _ _ (late_no (by kernel_rfl)) ?_
      clear hK K' c6c c6f
      try simp only [Act.put, List.setIfInBounds_toArray, List.set_cons_zero, List.set_cons_succ]
      have kp := (Keep.refl [N6] Wf).setCell (p := ⟨N6, 0, none⟩) (by simp) (.slice (some ⟨gn6, 0, none⟩) (NV + 1) cn6)
      have hV := hV.far h6 (by decide) kp
      have hK0 := hK0.trans (KT.one h6 (.inr (.inr (.inr rfl))) kp)
      have hB := hB.setCell (p := ⟨N6, 0, none⟩) hN6 (.slice (some ⟨gn6, 0, none⟩) (NV + 1) cn6)
      have h5 := h5.far (p := ⟨N6, 0, none⟩) hne.symm (.slice (some ⟨gn6, 0, none⟩) (NV + 1) cn6)
      have h6 : Blk (Wf.setCell ⟨N6, 0, none⟩ (.slice (some ⟨gn6, 0, none⟩) (NV + 1) cn6)) N6 50 #[.slice (some ⟨gn6, 0, none⟩) (NV + 1) cn6] := h6.set_ 0 (.slice (some ⟨gn6, 0, none⟩) (NV + 1) cn6)
      clear kp
      generalize Wf.setCell ⟨N6, 0, none⟩ (.slice (some ⟨gn6, 0, none⟩) (NV + 1) cn6) = Wg at *
      refine wpAnyL_done (by kernel_rfl) ?_ _
      clear hne
      have hO2 : OS k0 k1 m w0 N4 N5 N6 (fun _ => False) Wg (.slice (some ⟨gn5, 0, none⟩) (NV + 1) cn5) (.slice (some ⟨gn6, 0, none⟩) (NV + 1) cn6) (all ++ [⟨b2, .slice A2 ps2.length c2, ps2⟩]) ts us n (L + 1) := HSN.out Wg gn5 cn5 gn6 cn6 hB hV h5 h6 (HH.out.kt hK0 (by decide))
      have hvD : TV Wg (some T) false := (TV.tok HTk.out).kt hK0
      have HFF := Lib.hid (HF.out Wg _ _ _ hO2 hvD)
      clear HF hO2 hvD hB hV h5 h6 hK0 HSN HH
      repeat (first | exact HFF.out _ _ _ _ _ _ _ _ _ _ _ _ _ _ _ _ _ _ _ _ _ _ _ _ _ _ _ _ _ _ _ _ _ _ _ _ _ _ _ _ _ _ _ _ _ _ _ _ _ _ _ _ _ _ _ _ _ _ _ _ _ _ _ _ _ _ _ _ _ _ _ _ _ _ _ _ _ _ _ _ _ _ _ _ _ _ _ _ _ _ _ _ _ _ _ | go_step)

    · go_simp
      have hBl := (Below.refl _ Wa).alloc (Nat.le_refl _) (.cells #[.slice A2 ps2.length c2] 32)
      have nb : Blk (Wa.alloc (.cells #[.slice A2 ps2.length c2] 32)) Wa.heap.size 32 #[.slice A2 ps2.length c2] := Blk.new Wa 32 #[.slice A2 ps2.length c2]
      have hV := hV.below hBl
      have h5 := h5.below hBl
      have h6 := h6.below hBl
      have hK0 := hK0.trans (KT.ofBelow hBl)
      have hB := hB.trans (hBl.mono hB.size)
      have na := na.below hBl
      refine hK.out _ _ (fun _ => ⟨h5.cell 0, h6.cell 0⟩) ?_
      clear hK K' hS hBl
      try simp only [Act.put, List.setIfInBounds_toArray, List.set_cons_zero, List.set_cons_succ]
      generalize Wa.alloc (.cells #[.slice A2 ps2.length c2] 32) = Wb at *
      generalize Wa.heap.size = Bb at *
      have hS : (fun w' : World => w'.cell? ⟨N5, 0, none⟩ = some (.slice A5 NV c5) ∧ w'.cell? ⟨N6, 0, none⟩ = some (.slice A6 NV c6)) Wb := ⟨h5.cell 0, h6.cell 0⟩
      refine wpAnyL_ready (rs := [3]) (by kernel_rfl) (by simp) ?_
      refine AllReadyL.cons (o := { dst := some 75, op := Go.Op.call { callee := Go.Callee.builtin Go.Builtin.append, args := #[Go.Operand.tmp 72, Go.Operand.tmp 74], argTypes := #[49, 49] }, type := 49, pos := "law.go:186", after := #[{ on := 0, ground := Go.Ground.data }, { on := 2, ground := Go.Ground.data }], guard := none }) rfl (fun K' hK => ?_) AllReadyL.nil
      refine step_append_lies _ (by rfl) _ _ _ (by rfl) w0.heap.size 30 i30 _ 1 8 Tryz.underlying49 hi30 hy300 hy301 hy302 zsz_ptr (by decide) (.slice A5 NV c5) NV (kcs bs) (by rfl) (by have := hV.r5; rw [HBL.out] at this; exact this) ⟨Ba, 0, none⟩ 1 1 [.pointer (some ⟨b2, 0, none⟩)] (by rfl) rfl (World.news_of_block na) (by simp [Value.oneCell']) (by omega) (by unfold maxLen; omega) (by omega) hV.hb _ rfl ?_
      intro gn5 cn5 Wc hown1 hgrow1 hat1 hlt1
      have hV2 := hV.grow5 (g := gn5) (cap := cn5) (b := b2) hgrow1 (by rw [HBL.out]; exact hown1) hat1
      have h52 := hV.far5 hgrow1 h5 (by decide)
      have h62 := hV.far5 hgrow1 h6 (by decide)
      have nb := hV.far5 hgrow1 nb (by decide)
      have hK2 := hK0.trans (KT.grown hV.r5 hgrow1 (.inl rfl))
      have hBn := hB.grown hgrow1 hB.size (own_ge hV.r5)
      rw [HBL.out] at hV2
      refine hK.out _ _ (fun _ => ⟨h52.cell 0, h62.cell 0⟩) ?_
      clear hK K' hS hgrow1 hat1 hlt1 hown1 na hV h5 h6 hB hK0
      try simp only [Act.put, List.setIfInBounds_toArray, List.set_cons_zero, List.set_cons_succ]
      have hV := hV2
      have h5 := h52
      have h6 := h62
      have hB := hBn
      have hK0 := hK2
      clear hV2 h52 h62 hBn hK2
      have hS : (fun w' : World => w'.cell? ⟨N5, 0, none⟩ = some (.slice A5 NV c5) ∧ w'.cell? ⟨N6, 0, none⟩ = some (.slice A6 NV c6)) Wc := ⟨h5.cell 0, h6.cell 0⟩
      refine wpAnyL_ready (rs := [7]) (by kernel_rfl) (by simp) ?_
      refine AllReadyL.cons (o := { dst := some 79, op := Go.Op.call { callee := Go.Callee.builtin Go.Builtin.append, args := #[Go.Operand.tmp 76, Go.Operand.tmp 78], argTypes := #[50, 50] }, type := 50, pos := "law.go:186", after := #[{ on := 4, ground := Go.Ground.data }, { on := 6, ground := Go.Ground.data }, { on := 3, ground := Go.Ground.chain }], guard := none }) rfl (fun K' hK => ?_) AllReadyL.nil
      refine step_append_lies _ (by rfl) _ _ _ (by rfl) w0.heap.size 32 i32 _ 1 24 Tryz.underlying50 hi32 hy320 hy321 hy322 zsz_sl (by decide) (.slice A6 NV c6) NV ls (by rfl) (by have := hV.r6; rw [HLL.out] at this; exact this) ⟨Bb, 0, none⟩ 1 1 [.slice A2 ps2.length c2] (by rfl) rfl (World.news_of_block nb) (by simp [Value.oneCell']) (by omega) (by unfold maxLen; omega) (by omega) hV.hb _ rfl ?_
      intro gn6 cn6 We hown1 hgrow1 hat1 hlt1
      have hV2 := hV.grow6 (g := gn6) (cap := cn6) (u := .slice A2 ps2.length c2) hgrow1 (by rw [HLL.out]; exact hown1)
      have h52 := hV.far6 hgrow1 h5 (by decide)
      have h62 := hV.far6 hgrow1 h6 (by decide)
      have hK2 := hK0.trans (KT.grown hV.r6 hgrow1 (.inr (.inl rfl)))
      have hBn := hB.grown hgrow1 hB.size (own_ge hV.r6)
      rw [HLL.out] at hV2
      refine hK.out _ _ (fun _ => ⟨h52.cell 0, h62.cell 0⟩) ?_
      clear hK K' hS hgrow1 hat1 hlt1 hown1 nb hV h5 h6 hB hK0
      try simp only [Act.put, List.setIfInBounds_toArray, List.set_cons_zero, List.set_cons_succ]
      have hV := hV2
      have h5 := h52
      have h6 := h62
      have hB := hBn
      have hK0 := hK2
      clear hV2 h52 h62 hBn hK2
      have hne := box_ne h5 h6
      have c5c := h5.cell 0
      have c5f := h5.frozen 0
      refine wpAnyL_ready (rs := [8]) (by kernel_rfl) (by simp) ?_
      refine AllReadyL.cons (o := { dst := none, op := Go.Op.store 49 (Go.Operand.tmp 13) (Go.Operand.tmp 75), type := 0, pos := "law.go:186", after := #[{ on := 3, ground := Go.Ground.data }, { on := 7, ground := Go.Ground.chain }, { on := 0, ground := Go.Ground.phase }, { on := 1, ground := Go.Ground.phase }, { on := 2, ground := Go.Ground.phase }, { on := 3, ground := Go.Ground.phase }, { on := 4, ground := Go.Ground.textOnly Go.Departure.inlinedCapture }, { on := 5, ground := Go.Ground.textOnly Go.Departure.lateStores }, { on := 6, ground := Go.Ground.textOnly Go.Departure.inlinedCapture }, { on := 7, ground := Go.Ground.textOnly Go.Departure.lateStoresUnsure }], guard := none }) rfl (fun K' hK => ?_) AllReadyL.nil
      go_simp
      refine hK.out _ _ (late_no (by kernel_rfl)) ?_
      clear hK K' c5c c5f
      try simp only [Act.put, List.setIfInBounds_toArray, List.set_cons_zero, List.set_cons_succ]
      have kp := (Keep.refl [N5] We).setCell (p := ⟨N5, 0, none⟩) (by simp) (.slice (some ⟨gn5, 0, none⟩) (NV + 1) cn5)
      have hV := hV.far h5 (by decide) kp
      have hK0 := hK0.trans (KT.one h5 (.inr (.inr (.inl rfl))) kp)
      have hB := hB.setCell (p := ⟨N5, 0, none⟩) hN5 (.slice (some ⟨gn5, 0, none⟩) (NV + 1) cn5)
      have h6 := h6.far (p := ⟨N5, 0, none⟩) hne (.slice (some ⟨gn5, 0, none⟩) (NV + 1) cn5)
      have h5 : Blk (We.setCell ⟨N5, 0, none⟩ (.slice (some ⟨gn5, 0, none⟩) (NV + 1) cn5)) N5 49 #[.slice (some ⟨gn5, 0, none⟩) (NV + 1) cn5] := h5.set_ 0 (.slice (some ⟨gn5, 0, none⟩) (NV + 1) cn5)
      clear kp
      generalize We.setCell ⟨N5, 0, none⟩ (.slice (some ⟨gn5, 0, none⟩) (NV + 1) cn5) = Wf at *
      have c6c := h6.cell 0
      have c6f := h6.frozen 0
      refine wpAnyL_ready (rs := [9]) (by kernel_rfl) (by simp) ?_
      refine AllReadyL.cons (o := { dst := none, op := Go.Op.store 50 (Go.Operand.tmp 14) (Go.Operand.tmp 79), type := 0, pos := "law.go:186", after := #[{ on := 7, ground := Go.Ground.data }, { on := 8, ground := Go.Ground.chain }, { on := 0, ground := Go.Ground.phase }, { on := 1, ground := Go.Ground.phase }, { on := 2, ground := Go.Ground.phase }, { on := 3, ground := Go.Ground.phase }, { on := 4, ground := Go.Ground.phase }, { on := 5, ground := Go.Ground.phase }, { on := 6, ground := Go.Ground.phase }, { on := 7, ground := Go.Ground.phase }, { on := 8, ground := Go.Ground.phase }], guard := none }) rfl (fun K' hK => ?_) AllReadyL.nil
      go_simp
      refine hK.out _ _ (late_no (by kernel_rfl)) ?_
      clear hK K' c6c c6f
      try simp only [Act.put, List.setIfInBounds_toArray, List.set_cons_zero, List.set_cons_succ]
      have kp := (Keep.refl [N6] Wf).setCell (p := ⟨N6, 0, none⟩) (by simp) (.slice (some ⟨gn6, 0, none⟩) (NV + 1) cn6)
      have hV := hV.far h6 (by decide) kp
      have hK0 := hK0.trans (KT.one h6 (.inr (.inr (.inr rfl))) kp)
      have hB := hB.setCell (p := ⟨N6, 0, none⟩) hN6 (.slice (some ⟨gn6, 0, none⟩) (NV + 1) cn6)
      have h5 := h5.far (p := ⟨N6, 0, none⟩) hne.symm (.slice (some ⟨gn6, 0, none⟩) (NV + 1) cn6)
      have h6 : Blk (Wf.setCell ⟨N6, 0, none⟩ (.slice (some ⟨gn6, 0, none⟩) (NV + 1) cn6)) N6 50 #[.slice (some ⟨gn6, 0, none⟩) (NV + 1) cn6] := h6.set_ 0 (.slice (some ⟨gn6, 0, none⟩) (NV + 1) cn6)
      clear kp
      generalize Wf.setCell ⟨N6, 0, none⟩ (.slice (some ⟨gn6, 0, none⟩) (NV + 1) cn6) = Wg at *
      refine wpAnyL_done (by kernel_rfl) ?_ _
      clear hne
      have hO2 : OS k0 k1 m w0 N4 N5 N6 (fun _ => False) Wg (.slice (some ⟨gn5, 0, none⟩) (NV + 1) cn5) (.slice (some ⟨gn6, 0, none⟩) (NV + 1) cn6) (all ++ [⟨b2, .slice A2 ps2.length c2, ps2⟩]) ts us n (L + 1) := HSN.out Wg gn5 cn5 gn6 cn6 hB hV h5 h6 (HH.out.kt hK0 (by decide))
      have hvD : TV Wg (some T) false := (TV.tok HTk.out).kt hK0
      have HFF := Lib.hid (HF.out Wg _ _ _ hO2 hvD)
      clear HF hO2 hvD hB hV h5 h6 hK0 HSN HH
      repeat (first | exact HFF.out _ _ _ _ _ _ _ _ _ _ _ _ _ _ _ _ _ _ _ _ _ _ _ _ _ _ _ _ _ _ _ _ _ _ _ _ _ _ _ _ _ _ _ _ _ _ _ _ _ _ _ _ _ _ _ _ _ _ _ _ _ _ _ _ _ _ _ _ _ _ _ _ _ _ _ _ _ _ _ _ _ _ _ _ _ _ _ _ _ _ _ _ _ _ _ | go_step)


  · go_simp
    have hBl := (Below.refl _ Wd).alloc (Nat.le_refl _) (.cells #[.slice A2 ps2.length c2] 32)
    have nb : Blk (Wd.alloc (.cells #[.slice A2 ps2.length c2] 32)) Wd.heap.size 32 #[.slice A2 ps2.length c2] := Blk.new Wd 32 #[.slice A2 ps2.length c2]
    have hV := hV.below hBl
    have h5 := h5.below hBl
    have h6 := h6.below hBl
    have hK0 := hK0.trans (KT.ofBelow hBl)
    have hB := hB.trans (hBl.mono hB.size)
    skip
    refine hK.out _ _ (fun _ => ⟨h5.cell 0, h6.cell 0⟩) ?_
    clear hK K' hS hBl
    try simp only [Act.put, List.setIfInBounds_toArray, List.set_cons_zero, List.set_cons_succ]
    generalize Wd.alloc (.cells #[.slice A2 ps2.length c2] 32) = Wa at *
    generalize Wd.heap.size = Bb at *
    have hS : (fun w' : World => w'.cell? ⟨N5, 0, none⟩ = some (.slice A5 NV c5) ∧ w'.cell? ⟨N6, 0, none⟩ = some (.slice A6 NV c6)) Wa := ⟨h5.cell 0, h6.cell 0⟩
    refine wpAnyL_ready (rs := [2]) (by kernel_rfl) (by simp) ?_
    refine AllReadyL.cons (o := { dst := some 74, op := Go.Op.buildSlice 49 1 #[(0, Go.Operand.tmp 73)], type := 49, pos := "law.go:186", after := #[{ on := 1, ground := Go.Ground.data }], guard := none }) rfl (fun K' hK => ?_) AllReadyL.nil
    go_simp
    have hBl := (Below.refl _ Wa).alloc (Nat.le_refl _) (.cells #[.pointer (some ⟨b2, 0, none⟩)] 30)
    have na : Blk (Wa.alloc (.cells #[.pointer (some ⟨b2, 0, none⟩)] 30)) Wa.heap.size 30 #[.pointer (some ⟨b2, 0, none⟩)] := Blk.new Wa 30 #[.pointer (some ⟨b2, 0, none⟩)]
    have hV := hV.below hBl
    have h5 := h5.below hBl
    have h6 := h6.below hBl
    have hK0 := hK0.trans (KT.ofBelow hBl)
    have hB := hB.trans (hBl.mono hB.size)
    have nb := nb.below hBl
    refine hK.out _ _ (fun _ => ⟨h5.cell 0, h6.cell 0⟩) ?_
    clear hK K' hS hBl
    try simp only [Act.put, List.setIfInBounds_toArray, List.set_cons_zero, List.set_cons_succ]
    generalize Wa.alloc (.cells #[.pointer (some ⟨b2, 0, none⟩)] 30) = Wb at *
    generalize Wa.heap.size = Ba at *
    have hS : (fun w' : World => w'.cell? ⟨N5, 0, none⟩ = some (.slice A5 NV c5) ∧ w'.cell? ⟨N6, 0, none⟩ = some (.slice A6 NV c6)) Wb := ⟨h5.cell 0, h6.cell 0⟩
    refine wpAnyL_ready (rs := [3]) (by kernel_rfl) (by simp) ?_
    refine AllReadyL.cons (o := { dst := some 75, op := Go.Op.call { callee := Go.Callee.builtin Go.Builtin.append, args := #[Go.Operand.tmp 72, Go.Operand.tmp 74], argTypes := #[49, 49] }, type := 49, pos := "law.go:186", after := #[{ on := 0, ground := Go.Ground.data }, { on := 2, ground := Go.Ground.data }], guard := none }) rfl (fun K' hK => ?_) AllReadyL.nil
    refine step_append_lies _ (by rfl) _ _ _ (by rfl) w0.heap.size 30 i30 _ 1 8 Tryz.underlying49 hi30 hy300 hy301 hy302 zsz_ptr (by decide) (.slice A5 NV c5) NV (kcs bs) (by rfl) (by have := hV.r5; rw [HBL.out] at this; exact this) ⟨Ba, 0, none⟩ 1 1 [.pointer (some ⟨b2, 0, none⟩)] (by rfl) rfl (World.news_of_block na) (by simp [Value.oneCell']) (by omega) (by unfold maxLen; omega) (by omega) hV.hb _ rfl ?_
    intro gn5 cn5 Wc hown1 hgrow1 hat1 hlt1
    have hV2 := hV.grow5 (g := gn5) (cap := cn5) (b := b2) hgrow1 (by rw [HBL.out]; exact hown1) hat1
    have h52 := hV.far5 hgrow1 h5 (by decide)
    have h62 := hV.far5 hgrow1 h6 (by decide)
    have nb := hV.far5 hgrow1 nb (by decide)
    have hK2 := hK0.trans (KT.grown hV.r5 hgrow1 (.inl rfl))
    have hBn := hB.grown hgrow1 hB.size (own_ge hV.r5)
    rw [HBL.out] at hV2
    refine hK.out _ _ (fun _ => ⟨h52.cell 0, h62.cell 0⟩) ?_
    clear hK K' hS hgrow1 hat1 hlt1 hown1 na hV h5 h6 hB hK0
    try simp only [Act.put, List.setIfInBounds_toArray, List.set_cons_zero, List.set_cons_succ]
    have hV := hV2
    have h5 := h52
    have h6 := h62
    have hB := hBn
    have hK0 := hK2
    clear hV2 h52 h62 hBn hK2
    have hS : (fun w' : World => w'.cell? ⟨N5, 0, none⟩ = some (.slice A5 NV c5) ∧ w'.cell? ⟨N6, 0, none⟩ = some (.slice A6 NV c6)) Wc := ⟨h5.cell 0, h6.cell 0⟩
    refine wpAnyL_ready (rs := [7]) (by kernel_rfl) (by simp) ?_
    refine AllReadyL.cons (o := { dst := some 79, op := Go.Op.call { callee := Go.Callee.builtin Go.Builtin.append, args := #[Go.Operand.tmp 76, Go.Operand.tmp 78], argTypes := #[50, 50] }, type := 50, pos := "law.go:186", after := #[{ on := 4, ground := Go.Ground.data }, { on := 6, ground := Go.Ground.data }, { on := 3, ground := Go.Ground.chain }], guard := none }) rfl (fun K' hK => ?_) AllReadyL.nil
    refine step_append_lies _ (by rfl) _ _ _ (by rfl) w0.heap.size 32 i32 _ 1 24 Tryz.underlying50 hi32 hy320 hy321 hy322 zsz_sl (by decide) (.slice A6 NV c6) NV ls (by rfl) (by have := hV.r6; rw [HLL.out] at this; exact this) ⟨Bb, 0, none⟩ 1 1 [.slice A2 ps2.length c2] (by rfl) rfl (World.news_of_block nb) (by simp [Value.oneCell']) (by omega) (by unfold maxLen; omega) (by omega) hV.hb _ rfl ?_
    intro gn6 cn6 We hown1 hgrow1 hat1 hlt1
    have hV2 := hV.grow6 (g := gn6) (cap := cn6) (u := .slice A2 ps2.length c2) hgrow1 (by rw [HLL.out]; exact hown1)
    have h52 := hV.far6 hgrow1 h5 (by decide)
    have h62 := hV.far6 hgrow1 h6 (by decide)
    have hK2 := hK0.trans (KT.grown hV.r6 hgrow1 (.inr (.inl rfl)))
    have hBn := hB.grown hgrow1 hB.size (own_ge hV.r6)
    rw [HLL.out] at hV2
    refine hK.out _ _ (fun _ => ⟨h52.cell 0, h62.cell 0⟩) ?_
    clear hK K' hS hgrow1 hat1 hlt1 hown1 nb hV h5 h6 hB hK0
    try simp only [Act.put, List.setIfInBounds_toArray, List.set_cons_zero, List.set_cons_succ]
    have hV := hV2
    have h5 := h52
    have h6 := h62
    have hB := hBn
    have hK0 := hK2
    clear hV2 h52 h62 hBn hK2
    have hne := box_ne h5 h6
    have c5c := h5.cell 0
    have c5f := h5.frozen 0
    refine wpAnyL_ready (rs := [8]) (by kernel_rfl) (by simp) ?_
    refine AllReadyL.cons (o := { dst := none, op := Go.Op.store 49 (Go.Operand.tmp 13) (Go.Operand.tmp 75), type := 0, pos := "law.go:186", after := #[{ on := 3, ground := Go.Ground.data }, { on := 7, ground := Go.Ground.chain }, { on := 0, ground := Go.Ground.phase }, { on := 1, ground := Go.Ground.phase }, { on := 2, ground := Go.Ground.phase }, { on := 3, ground := Go.Ground.phase }, { on := 4, ground := Go.Ground.textOnly Go.Departure.inlinedCapture }, { on := 5, ground := Go.Ground.textOnly Go.Departure.lateStores }, { on := 6, ground := Go.Ground.textOnly Go.Departure.inlinedCapture }, { on := 7, ground := Go.Ground.textOnly Go.Departure.lateStoresUnsure }], guard := none }) rfl (fun K' hK => ?_) AllReadyL.nil
    go_simp
    refine hK.out _ _ (late_no (by kernel_rfl)) ?_
    clear hK K' c5c c5f
    try simp only [Act.put, List.setIfInBounds_toArray, List.set_cons_zero, List.set_cons_succ]
    have kp := (Keep.refl [N5] We).setCell (p := ⟨N5, 0, none⟩) (by simp) (.slice (some ⟨gn5, 0, none⟩) (NV + 1) cn5)
    have hV := hV.far h5 (by decide) kp
    have hK0 := hK0.trans (KT.one h5 (.inr (.inr (.inl rfl))) kp)
    have hB := hB.setCell (p := ⟨N5, 0, none⟩) hN5 (.slice (some ⟨gn5, 0, none⟩) (NV + 1) cn5)
    have h6 := h6.far (p := ⟨N5, 0, none⟩) hne (.slice (some ⟨gn5, 0, none⟩) (NV + 1) cn5)
    have h5 : Blk (We.setCell ⟨N5, 0, none⟩ (.slice (some ⟨gn5, 0, none⟩) (NV + 1) cn5)) N5 49 #[.slice (some ⟨gn5, 0, none⟩) (NV + 1) cn5] := h5.set_ 0 (.slice (some ⟨gn5, 0, none⟩) (NV + 1) cn5)
    clear kp
    generalize We.setCell ⟨N5, 0, none⟩ (.slice (some ⟨gn5, 0, none⟩) (NV + 1) cn5) = Wf at *
    have c6c := h6.cell 0
    have c6f := h6.frozen 0
    refine wpAnyL_ready (rs := [9]) (by kernel_rfl) (by simp) ?_
    refine AllReadyL.cons (o := { dst := none, op := Go.Op.store 50 (Go.Operand.tmp 14) (Go.Operand.tmp 79), type := 0, pos := "law.go:186", after := #[{ on := 7, ground := Go.Ground.data }, { on := 8, ground := Go.Ground.chain }, { on := 0, ground := Go.Ground.phase }, { on := 1, ground := Go.Ground.phase }, { on := 2, ground := Go.Ground.phase }, { on := 3, ground := Go.Ground.phase }, { on := 4, ground := Go.Ground.phase }, { on := 5, ground := Go.Ground.phase }, { on := 6, ground := Go.Ground.phase }, { on := 7, ground := Go.Ground.phase }, { on := 8, ground := Go.Ground.phase }], guard := none }) rfl (fun K' hK => ?_) AllReadyL.nil
    go_simp
    refine hK.out _ _ (late_no (by kernel_rfl)) ?_
    clear hK K' c6c c6f
    try simp only [Act.put, List.setIfInBounds_toArray, List.set_cons_zero, List.set_cons_succ]
    have kp := (Keep.refl [N6] Wf).setCell (p := ⟨N6, 0, none⟩) (by simp) (.slice (some ⟨gn6, 0, none⟩) (NV + 1) cn6)
    have hV := hV.far h6 (by decide) kp
    have hK0 := hK0.trans (KT.one h6 (.inr (.inr (.inr rfl))) kp)
    have hB := hB.setCell (p := ⟨N6, 0, none⟩) hN6 (.slice (some ⟨gn6, 0, none⟩) (NV + 1) cn6)
    have h5 := h5.far (p := ⟨N6, 0, none⟩) hne.symm (.slice (some ⟨gn6, 0, none⟩) (NV + 1) cn6)
    have h6 : Blk (Wf.setCell ⟨N6, 0, none⟩ (.slice (some ⟨gn6, 0, none⟩) (NV + 1) cn6)) N6 50 #[.slice (some ⟨gn6, 0, none⟩) (NV + 1) cn6] := h6.set_ 0 (.slice (some ⟨gn6, 0, none⟩) (NV + 1) cn6)
    clear kp
    generalize Wf.setCell ⟨N6, 0, none⟩ (.slice (some ⟨gn6, 0, none⟩) (NV + 1) cn6) = Wg at *
    refine wpAnyL_done (by kernel_rfl) ?_ _
    clear hne
    have hO2 : OS k0 k1 m w0 N4 N5 N6 (fun _ => False) Wg (.slice (some ⟨gn5, 0, none⟩) (NV + 1) cn5) (.slice (some ⟨gn6, 0, none⟩) (NV + 1) cn6) (all ++ [⟨b2, .slice A2 ps2.length c2, ps2⟩]) ts us n (L + 1) := HSN.out Wg gn5 cn5 gn6 cn6 hB hV h5 h6 (HH.out.kt hK0 (by decide))
    have hvD : TV Wg (some T) false := (TV.tok HTk.out).kt hK0
    have HFF := Lib.hid (HF.out Wg _ _ _ hO2 hvD)
    clear HF hO2 hvD hB hV h5 h6 hK0 HSN HH
    repeat (first | exact HFF.out _ _ _ _ _ _ _ _ _ _ _ _ _ _ _ _ _ _ _ _ _ _ _ _ _ _ _ _ _ _ _ _ _ _ _ _ _ _ _ _ _ _ _ _ _ _ _ _ _ _ _ _ _ _ _ _ _ _ _ _ _ _ _ _ _ _ _ _ _ _ _ _ _ _ _ _ _ _ _ _ _ _ _ _ _ _ _ _ _ _ _ _ _ _ _ | go_step)


end Go.Proofs.YtfmbikmpobieoaaGreat.champOwns
/- ChampOwns, part by part. -/
namespace Go.Proofs.YtfmbikmpobieoaaGreat.champOwns
open Go.ChangeShapes Go.WideShapes Go.RowKit Go.Lib
set_option linter.unusedVariables false
set_option linter.unusedSimpArgs false
set_option maxRecDepth 100000
attribute [local irreducible] cnt
noncomputable def own9 : Code := (Tryz.f5.body.bind (fromRegion 9)).getD .skip
set_option maxHeartbeats 16000000 in
theorem own9_any (post : Ending → World → Prop) (k0 k1 m : Int) (w0 w : World) (h0 : U64 k0) (h1 : U64 k1) (N4 N5 N6 : Nat) (v5 v6 : Value) (all : List Ver) (ts : List (Nat × List Pr)) (us : List (Value × List Pr)) (n L : Nat) (hO : OS k0 k1 m w0 N4 N5 N6 (fun _ => False) w v5 v6 all ts us n L) (hN5 : w0.heap.size ≤ N5) (hN6 : w0.heap.size ≤ N6) (hn : 60 ≤ n ∧ n ≤ 620) (hL : L ≤ 700) (am : Option Addr) (lenm capm : Nat) (hAm : ArgA w0 am lenm capm) (P c T b2 : Nat) (hPo : Pool w P c 1 1 []) (hTk : Tok w T P 1 true) (hbP : w0.heap.size ≤ P ∧ w0.heap.size ≤ c ∧ w0.heap.size ≤ T) (A2 : Option Addr) (c2 : Nat) (ps2 : List Pr) (hb : (b2, ps2) ∈ ts) (hvm : ((.slice A2 ps2.length c2 : Value), ps2) ∈ us) (hr2 : RisesL ps2) (hn2 : ps2.length ≤ 40) (hz2 : ∀ x ∈ ps2, x.1.size ≤ 40)
    (aa : Option Addr) (lena capa : Nat) (hAa : ArgA w0 aa lena capa) (b1 : Nat) (A1 : Option Addr) (c1 : Nat) (ps1 : List Pr) (hb1 : (b1, ps1) ∈ ts) (hvm1 : ((.slice A1 ps1.length c1 : Value), ps1) ∈ us) (hr1 : RisesL ps1) (hn1 : ps1.length ≤ 40) (hz1 : ∀ x ∈ ps1, x.1.size ≤ 40)
    (hpost : ∀ w', Below w0.heap.size w0 w' → post (.returned (.bool true)) w') (x0 x1 x5 x6 x7 x8 x10 x12 x20 x21 x22 x23 x24 x25 x26 x27 x28 x29 x30 x31 x32 x33 x34 x35 x36 x37 x38 x39 x40 x41 x42 x43 x44 x45 x46 x47 x48 x49 x50 x51 x52 x53 x54 x55 x56 x57 x58 x59 x60 x61 x62 x63 x64 x65 x66 x67 x68 x69 x70 x71 x72 x73 x74 x75 x76 x77 x78 x79 x80 x81 x82 x83 x84 x85 x86 x87 x88 x89 x90 x91 x92 x93 x94 x95 x96 x97 x98 x99 x100 x101 x102 : Value) :
    Code.wp Tryz.prog own9 (bodyPost Tryz.prog Tryz.f5 post) ⟨#[x0, x1, .slice am lenm capm, .slice aa lena capa, .pointer (some ⟨N4, 0, none⟩), x5, x6, x7, x8, .pointer (some ⟨P, 0, none⟩), x10, .pointer (some ⟨T, 0, none⟩), x12, .pointer (some ⟨N5, 0, none⟩), .pointer (some ⟨N6, 0, none⟩), .func (.func 21) #[] #[.pointer (some ⟨N4, 0, none⟩), .pointer (some ⟨N5, 0, none⟩), .pointer (some ⟨N6, 0, none⟩)], .pointer (some ⟨b1, 0, none⟩), .slice A1 ps1.length c1, .pointer (some ⟨b2, 0, none⟩), .slice A2 ps2.length c2, x20, x21, x22, x23, x24, x25, x26, x27, x28, x29, x30, x31, x32, x33, x34, x35, x36, x37, x38, x39, x40, x41, x42, x43, x44, x45, x46, x47, x48, x49, x50, x51, x52, x53, x54, x55, x56, x57, x58, x59, x60, x61, x62, x63, x64, x65, x66, x67, x68, x69, x70, x71, x72, x73, x74, x75, x76, x77, x78, x79, x80, x81, x82, x83, x84, x85, x86, x87, x88, x89, x90, x91, x92, x93, x94, x95, x96, x97, x98, x99, x100, x101, x102], []⟩ w := by
  have HF := Lib.hid (fun wr v5 v6 all ts us hO hPo hTk hb hvm => own13_any post k0 k1 m w0 wr h0 h1 N4 N5 N6 v5 v6 all ts us n (L + 20 + 20) hO hN5 hN6 hn (by omega) am lenm capm hAm P c T b2 hPo hTk hbP A2 c2 ps2 hb hvm hr2 hn2 hz2 hpost)
  have hRd : Rd w A2 ps2 := by
    obtain ⟨A', c', e', hr'⟩ := (hO.vb.x.eL _ hvm).rd
    simp only [Value.slice.injEq] at e'
    obtain ⟨rfl, -⟩ := e'
    exact hr'
  have kt := trie_X (A := A2) (c := c2) (hO.vb.x.eT _ hb) h0 h1 hRd (by show ps2.length ≤ 700; omega) (fun x hx => Nat.le_trans (hz2 x hx) (by omega))
  have HA := Lib.hid hAa
  have HR := Lib.hid (⟨⟨hr1, hz1⟩, hr2, hz2⟩ : (RisesL ps1 ∧ ∀ x ∈ ps1, x.1.size ≤ 40) ∧ RisesL ps2 ∧ ∀ x ∈ ps2, x.1.size ≤ 40)
  have s0 : w.cell? ⟨N4, 0, none⟩ = some (.int .u64 k0) := hO.hH.cell 0
  have s1 : w.cell? ⟨N4, 1, none⟩ = some (.int .u64 k1) := hO.hH.cell 1
  have s2 : w.cell? ⟨N4, 2, none⟩ = some (.int .u64 m) := hO.hH.cell 2
  clear hpost hAm hAa hRd hr1 hz1 hr2 hz2
  simp only []
  conv => arg 2; whnf
  go_wp2_with fail
  refine kt.mono ?_
  rintro e w1 ⟨rfl, hB1⟩
  have hO := hO.below hB1
  have hPo := hPo.kt (KT.ofBelow hB1)
  have hTk : Tok w1 T P 1 true := Blk.kt hTk (KT.ofBelow hB1) (by decide)
  have kg := growK_os h0 h1 aa lena capa HA.out none none rfl b1 (.slice A1 ps1.length c1) ps1 40 hO hN5 hN6 (TV.nil _) hb1 hvm1 HR.out.1.1 hn1 (by omega) hn.2 HR.out.1.2 (by omega)
  clear kt s0 s1 s2 hB1 hO
  go_wp2_with fail
  refine kg.mono ?_
  rintro e w2 ⟨b', v', rfl, vs, v5', v6', ps', hO, -, -, -, -, -, hK2⟩
  have hPo := hPo.kt hK2
  have hTk : Tok w2 T P 1 true := Blk.kt hTk hK2 (by decide)
  have hb := List.mem_append.2 (.inl hb : (b2, ps2) ∈ ts ∨ (b2, ps2) ∈ vs.map fun e => (e.b, e.ps))
  have hvm := List.mem_append.2 (.inl hvm : ((.slice A2 ps2.length c2 : Value), ps2) ∈ us ∨ ((.slice A2 ps2.length c2 : Value), ps2) ∈ vs.map fun e => (e.v, e.ps))
  have kg2 := growK_os h0 h1 aa lena capa HA.out none none rfl b2 (.slice A2 ps2.length c2) ps2 40 hO hN5 hN6 (TV.nil _) hb hvm HR.out.2.1 hn2 (by omega) hn.2 HR.out.2.2 (by omega)
  clear kg hK2 hO hb1 hvm1
  go_wp2_with fail
  refine kg2.mono ?_
  rintro e w3 ⟨b'', v'', rfl, vs2, v5'', v6'', ps'', hO, -, -, -, -, -, hK3⟩
  have hPo := hPo.kt hK3
  have hTk : Tok w3 T P 1 true := Blk.kt hTk hK3 (by decide)
  have HFF := Lib.hid (HF.out w3 _ _ _ _ _ hO hPo hTk (List.mem_append.2 (.inl hb)) (List.mem_append.2 (.inl hvm)))
  clear HF hO hPo hTk hb hvm kg2 hK3
  dsimp only
  repeat (first | exact HFF.out _ _ _ _ _ _ _ _ _ _ _ _ _ _ _ _ _ _ _ _ _ _ _ _ _ _ _ _ _ _ _ _ _ _ _ _ _ _ _ _ _ _ _ _ _ _ _ _ _ _ _ _ _ _ _ _ _ _ _ _ _ _ _ _ _ _ _ _ _ _ _ _ _ _ _ _ _ _ _ _ _ _ _ _ _ _ _ _ _ _ _ _ _ _ | go_step)
end Go.Proofs.YtfmbikmpobieoaaGreat.champOwns
