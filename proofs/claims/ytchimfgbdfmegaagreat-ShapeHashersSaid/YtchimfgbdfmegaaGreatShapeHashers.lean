/- ShapeHashers: for every two hashers and every list of pairs the law returns true: a trie is canonical by another hasher just if the document has the very same trie by it. Conditions: none beyond the given statement. -/
import Derived.Test.YtchimfgbdfmegaaGreatRows
import Derived.WalkKit
import Derived.ProofKit
import Derived.OpenShut
import Derived.ShutString
import Derived.ChangeOld
import Derived.Below
import Derived.BigQuiet
import Derived.Deep.RegionHeld3
import Derived.Carry
import Derived.Lib.SmallJoins
import Derived.Test.YtchimfgbdfmegaaGreatGas
namespace Go.Proofs.YtchimfgbdfmegaaGreat.shapeHashers
open Go.ChangeShapes Go.WideShapes Go.ChangeAt Go.RowKit Go.Joins Go.Lib
open Go.ChangeMaps (open_string shut_string)
set_option linter.unusedVariables false
set_option linter.unusedSimpArgs false
set_option maxRecDepth 100000
attribute [local irreducible] cnt

theorem own : ownKnob Tryz.prog.godebug = none := by kernel_rfl
theorem laidOut : laidOutB Tryz.prog = true := by kernel_rfl

theorem keep6 {N3 N4 : Nat} {k0 k1 m g0 g1 g : Int} {w w' : World} (h : (fun w' : World => w'.cell? ⟨N3, 0, none⟩ = some (.int .u64 k0) ∧ w'.cell? ⟨N3, 1, none⟩ = some (.int .u64 k1) ∧ w'.cell? ⟨N3, 2, none⟩ = some (.int .u64 m) ∧ w'.cell? ⟨N4, 0, none⟩ = some (.int .u64 g0) ∧ w'.cell? ⟨N4, 1, none⟩ = some (.int .u64 g1) ∧ w'.cell? ⟨N4, 2, none⟩ = some (.int .u64 g)) w) (hB : Below w.heap.size w w') : (fun w' : World => w'.cell? ⟨N3, 0, none⟩ = some (.int .u64 k0) ∧ w'.cell? ⟨N3, 1, none⟩ = some (.int .u64 k1) ∧ w'.cell? ⟨N3, 2, none⟩ = some (.int .u64 m) ∧ w'.cell? ⟨N4, 0, none⟩ = some (.int .u64 g0) ∧ w'.cell? ⟨N4, 1, none⟩ = some (.int .u64 g1) ∧ w'.cell? ⟨N4, 2, none⟩ = some (.int .u64 g)) w' := by
  have f : ∀ a v, w.cell? a = some v → w'.cell? a = some v := fun a v e => (hB.cell (World.block_lt_of_cell? w _ e)).trans e
  obtain ⟨a, b, c, d, e, h⟩ := h
  exact ⟨f _ _ a, f _ _ b, f _ _ c, f _ _ d, f _ _ e, f _ _ h⟩
set_option maxHeartbeats 16000000 in
theorem walk (k0 k1 m g0 g1 g : Int) (a1 : Option Addr) (len1 cap1 : Nat) (ps1 : List Pr) (w : World) (h0 : U64 k0) (h1 : U64 k1) (j0 : U64 g0) (j1 : U64 g1) (hp1 : ArgP w a1 len1 cap1 ps1) :
    Calls Tryz.prog 7 #[.agg #[.int .u64 k0, .int .u64 k1, .int .u64 m], .agg #[.int .u64 g0, .int .u64 g1, .int .u64 g], .slice a1 len1 cap1] w fun e w' => e = .returned (.bool true) ∧ Below w.heap.size w w' := by
  have hB0 := ((Below.refl _ w).alloc (Nat.le_refl _) (.cells #[.int .u64 k0, .int .u64 k1, .int .u64 m] 26)).alloc (by simp) (.cells #[.int .u64 g0, .int .u64 g1, .int .u64 g] 26)
  have b1 := (Blk.new w 26 #[.int .u64 k0, .int .u64 k1, .int .u64 m]).alloc (.cells #[.int .u64 g0, .int .u64 g1, .int .u64 g] 26)
  have b2 := Blk.new (w.alloc (.cells #[.int .u64 k0, .int .u64 k1, .int .u64 m] 26)) 26 #[.int .u64 g0, .int .u64 g1, .int .u64 g]
  have e1 : (w.alloc (.cells #[.int .u64 k0, .int .u64 k1, .int .u64 m] 26)).heap.size = w.heap.size + 1 := by simp
  rw [e1] at b2
  clear e1
  have HA1 := Lib.hid hp1
  clear hp1
  go_enter Tryz.func7, Tryz.ntmps7
  go_upto_region 1 with (fail)
  generalize (w.alloc (.cells #[.int .u64 k0, .int .u64 k1, .int .u64 m] 26)).alloc (.cells #[.int .u64 g0, .int .u64 g1, .int .u64 g] 26) = W at *
  obtain ⟨N4, hN4⟩ : ∃ N4, N4 = w.heap.size + 1 := ⟨_, rfl⟩
  rw [← hN4] at b2 ⊢
  obtain ⟨N3, hN3⟩ : ∃ N3, N3 = w.heap.size := ⟨_, rfl⟩
  rw [← hN3] at b1 ⊢
  clear hN3 hN4
  go_wp2_with fail
  refine (awake_any _).mono ?_
  rintro e w1 ⟨rfl, hB1⟩
  have b1 := b1.below hB1
  have b2 := b2.below hB1
  have hB := hB0.trans (hB1.mono hB0.size)
  clear hB1 hB0
  have s0 : w1.cell? ⟨N3, 0, none⟩ = some (.int .u64 k0) := b1.cell 0
  have s1 : w1.cell? ⟨N3, 1, none⟩ = some (.int .u64 k1) := b1.cell 1
  have s2 : w1.cell? ⟨N3, 2, none⟩ = some (.int .u64 m) := b1.cell 2
  have kt := trie_law (fun _ => False) k0 k1 m h0 h1 a1 len1 cap1 ps1 w1 (fun x h => h.elim) (HA1.out.below (hB.mono (Nat.le_refl _)))
  obtain ⟨hrX, hlX, hsX⟩ := trieL_good ps1
  unfold TrieP at kt
  go_wp2_with fail
  refine kt.mono ?_
  rintro e w2 ⟨ba, vx, rfl, hTa, hOx, hB2⟩
  have hB := hB.trans (hB2.mono hB.size)
  have b1 := b1.below hB2
  have b2 := b2.below hB2
  clear kt s0 s1 s2 hB2
  have s0 : w2.cell? ⟨N4, 0, none⟩ = some (.int .u64 g0) := b2.cell 0
  have s1 : w2.cell? ⟨N4, 1, none⟩ = some (.int .u64 g1) := b2.cell 1
  have s2 : w2.cell? ⟨N4, 2, none⟩ = some (.int .u64 g) := b2.cell 2
  have kt := trie_law (fun _ => False) g0 g1 g j0 j1 a1 len1 cap1 ps1 w2 (fun x h => h.elim) (HA1.out.below (hB.mono (Nat.le_refl _)))
  unfold TrieP at kt
  go_wp2_with fail
  refine kt.mono ?_
  rintro e w3 ⟨bb, vy, rfl, hTb, hOy, hB3⟩
  have hB := hB.trans (hB3.mono hB.size)
  have b1 := b1.below hB3
  have b2 := b2.below hB3
  have hNa := NdR.below _ (Trie.tree _ _ _ _ _ hTa) hB3
  have hNb := Trie.tree _ _ _ _ _ hTb
  obtain ⟨Ax, cx, rfl, hX⟩ := (hOx.below' hB3).rd
  obtain ⟨Ay, cy, rfl, -⟩ := hOy.rd
  clear kt s0 s1 s2 hB3 hTa hTb hOx hOy HA1
  generalize w1.heap.size = na at *
  generalize w2.heap.size = nb at *
  generalize trieL ps1 = X at *
  have hmx : ∀ x ∈ X, x.1.size ≤ 1000 := fun x hx => Nat.le_trans (hsX x hx).1 (by omega)
  have hXs : SmallR (treeOf (hz k0 k1 m) 13 0 X) := tree_small _ 13 0 X hsX.mid (by omega)
  have hYs : SmallR (treeOf (hz g0 g1 g) 13 0 X) := tree_small _ 13 0 X hsX.mid (by omega)
  have eX := enc_small (H := hz k0 k1 m) hsX (by omega)
  have eY := enc_small (H := hz g0 g1 g) hsX (by omega)
  have c1 : rightB (hz g0 g1 g) 13 (treeOf (hz k0 k1 m) 13 0 X) [] = decide (encR 14 (treeOf (hz k0 k1 m) 13 0 X) = encR 14 (treeOf (hz g0 g1 g) 13 0 X)) := by
    rw [encR_tree _ _ _ _ _ (by omega), encR_tree _ _ _ _ _ (by omega)]
    exact canon_other _ _ X hrX hsX.mid (by omega)
  have c2 : rightB (hz k0 k1 m) 13 (treeOf (hz g0 g1 g) 13 0 X) [] = decide (encR 14 (treeOf (hz k0 k1 m) 13 0 X) = encR 14 (treeOf (hz g0 g1 g) 13 0 X)) := by
    rw [encR_tree _ _ _ _ _ (by omega), encR_tree _ _ _ _ _ (by omega), decide_eq_decide.2 eq_comm]
    exact canon_other _ _ X hrX hsX.mid (by omega)
  have kRef1 := fun w' (hR : Rd w' Ax X) => refTrie_any k0 k1 m Ax cx X w' h0 h1 hR (by omega) hmx
  have kRef2 := fun w' (hR : Rd w' Ax X) => refTrie_any g0 g1 g Ax cx X w' j0 j1 hR (by omega) hmx
  have kCan1 := fun w' (hn : NdR na w' (treeOf (hz k0 k1 m) 13 0 X) ba) => canon_any g0 g1 g j0 j1 na _ ba w' hn hXs
  have kCan2 := fun w' (hn : NdR nb w' (treeOf (hz g0 g1 g) 13 0 X) bb) => canon_any k0 k1 m h0 h1 nb _ bb w' hn hYs
  rw [c1] at kCan1
  rw [c2] at kCan2
  clear c1 c2
  generalize treeOf (hz k0 k1 m) 13 0 X = tx at *
  generalize treeOf (hz g0 g1 g) 13 0 X = ty at *
  have kEnc1 := fun w' b (hf : RfR w' tx b) => refOfR_any 14 0 tx b w' rfl (by omega) hf hXs.fair eX
  have kEnc2 := fun w' b (hf : RfR w' ty b) => refOfR_any 14 0 ty b w' rfl (by omega) hf hYs.fair eY
  have kEq := fun w' base base' v v' (ha : OwnB base w' v (encR 14 tx)) (hb : OwnB base' w' v' (encR 14 ty)) => refSameB_any base base' v v' _ _ w' ha hb eX
  have kSab := fun w' (hn : NdR na w' tx ba) (hn' : NdR nb w' ty bb) => same_node na nb tx ty ba bb w' hn hXs.fair eX hn' hYs.fair eY (fun e => by subst e; exact NdR.enc tx na ba ty nb hn hn' 14)
  unfold hasherV at0 at kCan1 kCan2
  have hdr : Below w3.heap.size w3 w3.drew := (Below.refl _ w3).drew
  have hS0 : (fun w' : World => w'.cell? ⟨N3, 0, none⟩ = some (.int .u64 k0) ∧ w'.cell? ⟨N3, 1, none⟩ = some (.int .u64 k1) ∧ w'.cell? ⟨N3, 2, none⟩ = some (.int .u64 m) ∧ w'.cell? ⟨N4, 0, none⟩ = some (.int .u64 g0) ∧ w'.cell? ⟨N4, 1, none⟩ = some (.int .u64 g1) ∧ w'.cell? ⟨N4, 2, none⟩ = some (.int .u64 g)) w3.drew := ⟨b1.cell 0, b1.cell 1, b1.cell 2, b2.cell 0, b2.cell 1, b2.cell 2⟩
  replace b1 := b1.below hdr
  replace b2 := b2.below hdr
  replace hNa := NdR.below _ hNa hdr
  replace hNb := NdR.below _ hNb hdr
  replace hX := hX.below hdr
  replace hB := hB.drew
  clear hdr eX eY hXs hYs hmx hsX hrX
  generalize decide (encR 14 tx = encR 14 ty) = D at *
  generalize encR 14 tx = ex at *
  generalize encR 14 ty = ey at *
  go_upto_region 5 with (fail)
  refine wp_region_held_drew (S := (fun w' : World => w'.cell? ⟨N3, 0, none⟩ = some (.int .u64 k0) ∧ w'.cell? ⟨N3, 1, none⟩ = some (.int .u64 k1) ∧ w'.cell? ⟨N3, 2, none⟩ = some (.int .u64 m) ∧ w'.cell? ⟨N4, 0, none⟩ = some (.int .u64 g0) ∧ w'.cell? ⟨N4, 1, none⟩ = some (.int .u64 g1) ∧ w'.cell? ⟨N4, 2, none⟩ = some (.int .u64 g))) (by kernel_rfl) hS0 ?_
  intro hS
  refine wpAnyH_take (i := 0) (oi := { dst := some 26, op := Go.Op.load 26 (Go.Operand.tmp 3), type := 26, pos := "law.go:182", after := #[], guard := none }) (v := .agg #[.int .u64 k0, .int .u64 k1, .int .u64 m]) rfl (by kernel_rfl) (by kernel_rfl) (by kernel_rfl) (fun _ _ _ h => h) (Or.inl ⟨by rfl, fun w hSw => ?_⟩) hS ?_
  · go_split_ands
    go_simp
  try simp only [Act.put, List.setIfInBounds_toArray, List.set_cons_zero, List.set_cons_succ]
  refine wpAnyH_take (i := 2) (oi := { dst := some 28, op := Go.Op.move (Go.Operand.tmp 8), type := 30, pos := "law.go:182", after := #[], guard := none }) (v := .slice Ax X.length cx) rfl (by kernel_rfl) (by kernel_rfl) (by kernel_rfl) (fun _ _ _ h => h) (Or.inl ⟨by rfl, fun w hSw => ?_⟩) hS ?_
  · go_split_ands
    go_simp
  try simp only [Act.put, List.setIfInBounds_toArray, List.set_cons_zero, List.set_cons_succ]
  refine wpAnyH_take (i := 5) (oi := { dst := some 31, op := Go.Op.load 26 (Go.Operand.tmp 4), type := 26, pos := "law.go:182", after := #[], guard := none }) (v := .agg #[.int .u64 g0, .int .u64 g1, .int .u64 g]) rfl (by kernel_rfl) (by kernel_rfl) (by kernel_rfl) (fun _ _ _ h => h) (Or.inl ⟨by rfl, fun w hSw => ?_⟩) hS ?_
  · go_split_ands
    go_simp
  try simp only [Act.put, List.setIfInBounds_toArray, List.set_cons_zero, List.set_cons_succ]
  refine wpAnyH_take (i := 7) (oi := { dst := some 33, op := Go.Op.move (Go.Operand.tmp 8), type := 30, pos := "law.go:182", after := #[], guard := none }) (v := .slice Ax X.length cx) rfl (by kernel_rfl) (by kernel_rfl) (by kernel_rfl) (fun _ _ _ h => h) (Or.inl ⟨by rfl, fun w hSw => ?_⟩) hS ?_
  · go_split_ands
    go_simp
  try simp only [Act.put, List.setIfInBounds_toArray, List.set_cons_zero, List.set_cons_succ]
  refine wpAnyH_ready (rs := [1]) (by kernel_rfl) (by simp) ?_
  refine AllReadyH.cons (o := { dst := some 27, op := Go.Op.call { callee := Go.Callee.value (Go.Operand.func 14), args := #[Go.Operand.tmp 26], argTypes := #[26] }, type := 40, pos := "law.go:182", after := #[{ on := 0, ground := Go.Ground.data }], guard := none }) rfl (fun K hK => ?_) AllReadyH.nil
  go_simp
  refine (own_any k0 k1 m _).mono ?_
  rintro e wA ⟨rfl, hBA⟩
  go_wp2_with fail
  have hSn := keep6 hS hBA
  refine hK.out _ _ hSn (fun _ => ?_)
  clear hK K hS
  try simp only [Act.put, List.setIfInBounds_toArray, List.set_cons_zero, List.set_cons_succ]
  have hS := hSn
  clear hSn
  have hB := hB.trans (hBA.mono hB.size)
  replace hNa := NdR.below _ hNa hBA
  replace hNb := NdR.below _ hNb hBA
  replace hX := hX.below hBA
  replace b1 := b1.below hBA
  replace b2 := b2.below hBA
  refine wpAnyH_ready (rs := [3]) (by kernel_rfl) (by simp) ?_
  refine AllReadyH.cons (o := { dst := some 29, op := Go.Op.call { callee := Go.Callee.value (Go.Operand.func 13), args := #[Go.Operand.tmp 27, Go.Operand.tmp 28, Go.Operand.const (Go.Value.int Go.IntKind.i64 0)], argTypes := #[40, 30, 3] }, type := 37, pos := "law.go:182", after := #[{ on := 1, ground := Go.Ground.data }, { on := 2, ground := Go.Ground.data }, { on := 1, ground := Go.Ground.chain }], guard := none }) rfl (fun K hK => ?_) AllReadyH.nil
  go_simp
  refine (kRef1 _ hX).mono ?_
  rintro e wC ⟨rb, rfl, hRf, hBC⟩
  go_wp2_with fail
  have hSn := keep6 hS hBC
  refine hK.out _ _ hSn (fun _ => ?_)
  clear hK K hS
  try simp only [Act.put, List.setIfInBounds_toArray, List.set_cons_zero, List.set_cons_succ]
  have hS := hSn
  clear hSn
  have hB := hB.trans (hBC.mono hB.size)
  replace hNa := NdR.below _ hNa hBC
  replace hNb := NdR.below _ hNb hBC
  replace hX := hX.below hBC
  replace b1 := b1.below hBC
  replace b2 := b2.below hBC
  refine wpAnyH_ready (rs := [4]) (by kernel_rfl) (by simp) ?_
  refine AllReadyH.cons (o := { dst := some 30, op := Go.Op.call { callee := Go.Callee.value (Go.Operand.func 12), args := #[Go.Operand.tmp 29, Go.Operand.const (Go.Value.int Go.IntKind.i64 0)], argTypes := #[37, 3] }, type := 34, pos := "law.go:182", after := #[{ on := 3, ground := Go.Ground.data }, { on := 3, ground := Go.Ground.chain }], guard := none }) rfl (fun K hK => ?_) AllReadyH.nil
  go_simp
  refine (kEnc1 _ _ hRf).mono ?_
  rintro e wD ⟨v1, rfl, ho1, hBD⟩
  obtain ⟨A1, c1, rfl⟩ := own_formN ho1
  go_wp2_with fail
  have hSn := keep6 hS hBD
  refine hK.out _ _ hSn (fun _ => ?_)
  clear hK K hS
  try simp only [Act.put, List.setIfInBounds_toArray, List.set_cons_zero, List.set_cons_succ]
  have hS := hSn
  clear hSn
  have hB := hB.trans (hBD.mono hB.size)
  replace hNa := NdR.below _ hNa hBD
  replace hNb := NdR.below _ hNb hBD
  replace hX := hX.below hBD
  replace b1 := b1.below hBD
  replace b2 := b2.below hBD
  clear hRf
  refine wpAnyH_ready (rs := [6]) (by kernel_rfl) (by simp) ?_
  refine AllReadyH.cons (o := { dst := some 32, op := Go.Op.call { callee := Go.Callee.value (Go.Operand.func 14), args := #[Go.Operand.tmp 31], argTypes := #[26] }, type := 40, pos := "law.go:182", after := #[{ on := 5, ground := Go.Ground.data }, { on := 4, ground := Go.Ground.chain }], guard := none }) rfl (fun K hK => ?_) AllReadyH.nil
  go_simp
  refine (own_any g0 g1 g _).mono ?_
  rintro e wE ⟨rfl, hBE⟩
  go_wp2_with fail
  have hSn := keep6 hS hBE
  refine hK.out _ _ hSn (fun _ => ?_)
  clear hK K hS
  try simp only [Act.put, List.setIfInBounds_toArray, List.set_cons_zero, List.set_cons_succ]
  have hS := hSn
  clear hSn
  have hB := hB.trans (hBE.mono hB.size)
  replace hNa := NdR.below _ hNa hBE
  replace hNb := NdR.below _ hNb hBE
  replace hX := hX.below hBE
  replace b1 := b1.below hBE
  replace b2 := b2.below hBE
  replace ho1 := ho1.below hBE
  refine wpAnyH_ready (rs := [8]) (by kernel_rfl) (by simp) ?_
  refine AllReadyH.cons (o := { dst := some 34, op := Go.Op.call { callee := Go.Callee.value (Go.Operand.func 13), args := #[Go.Operand.tmp 32, Go.Operand.tmp 33, Go.Operand.const (Go.Value.int Go.IntKind.i64 0)], argTypes := #[40, 30, 3] }, type := 37, pos := "law.go:182", after := #[{ on := 6, ground := Go.Ground.data }, { on := 7, ground := Go.Ground.data }, { on := 6, ground := Go.Ground.chain }], guard := none }) rfl (fun K hK => ?_) AllReadyH.nil
  go_simp
  refine (kRef2 _ hX).mono ?_
  rintro e wF ⟨rc, rfl, hRf, hBF⟩
  go_wp2_with fail
  have hSn := keep6 hS hBF
  refine hK.out _ _ hSn (fun _ => ?_)
  clear hK K hS
  try simp only [Act.put, List.setIfInBounds_toArray, List.set_cons_zero, List.set_cons_succ]
  have hS := hSn
  clear hSn
  have hB := hB.trans (hBF.mono hB.size)
  replace hNa := NdR.below _ hNa hBF
  replace hNb := NdR.below _ hNb hBF
  replace hX := hX.below hBF
  replace b1 := b1.below hBF
  replace b2 := b2.below hBF
  replace ho1 := ho1.below hBF
  refine wpAnyH_ready (rs := [9]) (by kernel_rfl) (by simp) ?_
  refine AllReadyH.cons (o := { dst := some 35, op := Go.Op.call { callee := Go.Callee.value (Go.Operand.func 12), args := #[Go.Operand.tmp 34, Go.Operand.const (Go.Value.int Go.IntKind.i64 0)], argTypes := #[37, 3] }, type := 34, pos := "law.go:182", after := #[{ on := 8, ground := Go.Ground.data }, { on := 8, ground := Go.Ground.chain }], guard := none }) rfl (fun K hK => ?_) AllReadyH.nil
  go_simp
  refine (kEnc2 _ _ hRf).mono ?_
  rintro e wG ⟨v2, rfl, ho2, hBG⟩
  obtain ⟨A2, c2, rfl⟩ := own_formN ho2
  go_wp2_with fail
  have hSn := keep6 hS hBG
  refine hK.out _ _ hSn (fun _ => ?_)
  clear hK K hS
  try simp only [Act.put, List.setIfInBounds_toArray, List.set_cons_zero, List.set_cons_succ]
  have hS := hSn
  clear hSn
  have hB := hB.trans (hBG.mono hB.size)
  replace hNa := NdR.below _ hNa hBG
  replace hNb := NdR.below _ hNb hBG
  replace hX := hX.below hBG
  replace b1 := b1.below hBG
  replace b2 := b2.below hBG
  replace ho1 := ho1.below hBG
  clear hRf
  refine wpAnyH_ready (rs := [10]) (by kernel_rfl) (by simp) ?_
  refine AllReadyH.cons (o := { dst := some 36, op := Go.Op.call { callee := Go.Callee.value (Go.Operand.func 10), args := #[Go.Operand.tmp 30, Go.Operand.tmp 35], argTypes := #[34, 34] }, type := 4, pos := "law.go:182", after := #[{ on := 4, ground := Go.Ground.data }, { on := 9, ground := Go.Ground.data }, { on := 9, ground := Go.Ground.chain }], guard := none }) rfl (fun K hK => ?_) AllReadyH.nil
  go_simp
  refine (kEq _ _ _ _ _ ho1 ho2).mono ?_
  rintro e wH ⟨rfl, nF, rfl⟩
  have hBH := below_drewK wG nF
  go_wp2_with fail
  have hSn := keep6 hS hBH
  refine hK.out _ _ hSn (fun _ => ?_)
  clear hK K hS
  try simp only [Act.put, List.setIfInBounds_toArray, List.set_cons_zero, List.set_cons_succ]
  have hS := hSn
  clear hSn
  have hB := hB.trans (hBH.mono hB.size)
  replace hNa := NdR.below _ hNa hBH
  replace hNb := NdR.below _ hNb hBH
  replace hX := hX.below hBH
  replace b1 := b1.below hBH
  replace b2 := b2.below hBH
  clear ho1 ho2
  refine wpAnyH_take (i := 11) (oi := { dst := some 11, op := Go.Op.assign (Go.Operand.tmp 36), type := 4, pos := "law.go:182", after := #[{ on := 10, ground := Go.Ground.data }, { on := 10, ground := Go.Ground.chain }, { on := 0, ground := Go.Ground.phase }, { on := 1, ground := Go.Ground.phase }, { on := 2, ground := Go.Ground.phase }, { on := 3, ground := Go.Ground.phase }, { on := 4, ground := Go.Ground.phase }, { on := 5, ground := Go.Ground.phase }, { on := 6, ground := Go.Ground.phase }, { on := 7, ground := Go.Ground.phase }, { on := 8, ground := Go.Ground.phase }, { on := 9, ground := Go.Ground.phase }, { on := 10, ground := Go.Ground.phase }], guard := none }) (v := .bool D) rfl (by kernel_rfl) (by kernel_rfl) (by kernel_rfl) (fun _ _ _ h => h) (Or.inl ⟨by rfl, fun w hSw => ?_⟩) hS ?_
  · go_split_ands
    go_simp
  try simp only [Act.put, List.setIfInBounds_toArray, List.set_cons_zero, List.set_cons_succ]
  refine wpAnyH_done (by kernel_rfl) ?_ _

  have kc := kCan1 _ hNa
  have s0 : (wG.drewN nF).cell? ⟨N4, 0, none⟩ = some (.int .u64 g0) := b2.cell 0
  have s1 : (wG.drewN nF).cell? ⟨N4, 1, none⟩ = some (.int .u64 g1) := b2.cell 1
  have s2 : (wG.drewN nF).cell? ⟨N4, 2, none⟩ = some (.int .u64 g) := b2.cell 2
  clear hS hS0 kRef1 kRef2 kEnc1 kEnc2 kEq hX
  go_wp2_with fail
  refine kc.mono ?_
  rintro e wI ⟨rfl, hBI⟩
  have hB := hB.trans (hBI.mono hB.size)
  have b1 := b1.below hBI
  have hNa := NdR.below _ hNa hBI
  have hNb := NdR.below _ hNb hBI
  have kc := kCan2 _ hNb
  clear s0 s1 s2
  have s0 : wI.cell? ⟨N3, 0, none⟩ = some (.int .u64 k0) := b1.cell 0
  have s1 : wI.cell? ⟨N3, 1, none⟩ = some (.int .u64 k1) := b1.cell 1
  have s2 : wI.cell? ⟨N3, 2, none⟩ = some (.int .u64 m) := b1.cell 2
  clear hBI kCan1
  have L1 : (D == D) = true := by simp
  go_wp2_with fail
  refine kc.mono ?_
  rintro e wJ ⟨rfl, hBJ⟩
  have hB := hB.trans (hBJ.mono hB.size)
  have kc := kSab _ (NdR.below _ hNa hBJ) (NdR.below _ hNb hBJ)
  clear hBJ kCan2 s0 s1 s2
  go_wp2_with fail
  refine kc.mono ?_
  rintro e wK ⟨rfl, hBK⟩
  have hB := hB.trans (hBK.mono hB.size)
  go_wp2_with fail
  go_ret
  exact ⟨rfl, hB⟩

/-! ### THE ROW's STEP -/
set_option maxRecDepth 100000 in
theorem lifted (os : Os) (started : os.Started) (H : Type) (enc : TypeId × Value → H) :
    ReturnsInHanded {} Tryz.checked os 7 .any (Rows.shapeHashersSpec.pre6 enc Tryz.prog Tryz.f7 Rows.shapeHashersRow.domain false) (Rows.shapeHashersSpec.post enc Tryz.prog Tryz.f7 false true false false) := by
  refine returnsInHanded_of_change (C := Tryz.checked) own started (by kernel_rfl) Tryz.func7
    (ChangeSpec.witness6 (enc := enc) (C := Tryz.checked) false ⟨#[], #[.agg #[.int .u64 0, .int .u64 0, .int .u64 0], .agg #[.int .u64 0, .int .u64 0, .int .u64 0], .slice none 0 0], []⟩ 8 (by kernel_rfl) (by kernel_rfl) (by kernel_rfl) (by kernel_rfl)) ?_
  intro W base args ds gs before hval0 hW hcnd _
  have hval : ∀ (j : Nat) t v, Tryz.f7.params[j]? = some t → args[j]? = some v → Value.okWide Tryz.prog W .any base t v := hval0
  have hW' := hW
  obtain ⟨p, q, hA0, hV, rfl, hfz, hnd⟩ := hW
  have hA : DataW.TrodAll enc Tryz.prog W 0 (fun _ => true) true Tryz.f7.params.toList args.toList ds p := hA0
  rw [Tryz.params7] at hA hval
  obtain ⟨v0, vs0, d0, ds0, p0, q0, hargs, rfl, rfl, h0, r0⟩ := trodAll_cons hA
  obtain ⟨v1, vs1, d1, ds1, p1, q1, rfl, rfl, rfl, h1, r1⟩ := trodAll_cons r0
  obtain ⟨v2, vs2, d2, ds2, p2, q2, rfl, rfl, rfl, h2, r2⟩ := trodAll_cons r1
  obtain ⟨rfl, rfl, rfl⟩ := trodAll_nil r2
  obtain rfl : args = #[v0, v1, v2] := by cases args; simp_all
  obtain ⟨rfl, rfl⟩ := trodVars_none hV
  have k0 := h0
  have lt0 : ∀ x ∈ p0, x.block < W.heap.size := by obtain ⟨m, hm⟩ := k0; exact DataW.trod_lt m _ _ _ hm
  obtain ⟨x0, y0, m0, rfl, u0, t0, r0_⟩ := open_hasher (hval 0 26 v0 rfl rfl) h0
  have k1 := h1
  have lt1 : ∀ x ∈ p1, x.block < W.heap.size := by obtain ⟨m, hm⟩ := k1; exact DataW.trod_lt m _ _ _ hm
  obtain ⟨x1, y1, m1, rfl, u1, t1, r1_⟩ := open_hasher (hval 1 26 v1 rfl rfl) h1
  obtain ⟨a2, len2, cap2, rfl⟩ := okWide_slice Tryz.underlying27 (hval 2 27 v2 rfl rfl)
  have k2 := h2
  have lt2 : ∀ x ∈ p2, x.block < W.heap.size := by obtain ⟨m, hm⟩ := k2; exact DataW.trod_lt m _ _ _ hm
  obtain ⟨z2, w2⟩ := open_pairs h2
  clear hA0 hval0
  refine (walk x0 y0 m0 x1 y1 m1 a2 len2 cap2 z2 W u0 t0 u1 t1 w2).mono fun e W' ⟨he, bel⟩ => ?_
  subst he
  exact ⟨_, rfl, _, _, _, [], _, [], hW', trodAll_mk1 (shut_bool Tryz.underlying4 _), (trodAll_cons_mk (Below.trod laidOut (by kernel_rfl) (of_decide_eq_true (by kernel_rfl)) k0 bel lt0) (trodAll_cons_mk (Below.trod laidOut (by kernel_rfl) (of_decide_eq_true (by kernel_rfl)) k1 bel lt1) (trodAll_cons_mk (Below.trod laidOut (by kernel_rfl) (of_decide_eq_true (by kernel_rfl)) k2 bel lt2) trodAll_mk0))), rfl, bel.frame _, fun h => by cases h⟩

theorem over : Rows.shapeHashersRow.holds Tryz.pinned (OpenSpec.ofChange Rows.shapeHashersSpec) :=
  OpenClaim.holds_of_wide 7 Tryz.f7 rfl rfl rfl rfl rfl rfl rfl ⟨rfl, rfl, rfl, rfl, rfl⟩ rfl rfl rfl rfl rfl (by kernel_rfl) Tryz.func7 (by kernel_rfl)
    (of_decide_eq_true (by kernel_rfl)) (by unfold Func.isWrapper; first | (rw [if_pos (by decide +kernel)]; kernel_rfl) | (rw [if_neg (by decide +kernel)]; exact ⟨rfl, rfl⟩))
    (fun os started H enc _ => lifted os started H enc)

theorem proved : Rows.ShapeHashersSaid := over
#print axioms proved
end Go.Proofs.YtchimfgbdfmegaaGreat.shapeHashers
