/- ShapeTries: for every hasher and every two lists of pairs the law returns true: each trie looks, byte by byte, as the document says, is canonical by its own hasher, and two look alike just if their pairs are. Conditions: none beyond the given statement. -/
import Derived.Test.YtchimfgbdfmegaaGreatRows
import Derived.WalkKit
import Derived.ProofKit
import Derived.OpenShut
import Derived.ShutString
import Derived.ChangeOld
import Derived.Below
import Derived.BigQuiet
import Derived.Deep.RegionHeld3
import Derived.Carry
import Derived.Lib.SmallJoins
import Derived.Test.YtchimfgbdfmegaaGreatGas
namespace Go.Proofs.YtchimfgbdfmegaaGreat.shapeTries
open Go.ChangeShapes Go.WideShapes Go.ChangeAt Go.RowKit Go.Joins Go.Lib
open Go.ChangeMaps (open_string shut_string)
set_option linter.unusedVariables false
set_option linter.unusedSimpArgs false
set_option maxRecDepth 100000
attribute [local irreducible] cnt

theorem own : ownKnob Tryz.prog.godebug = none := by kernel_rfl
theorem laidOut : laidOutB Tryz.prog = true := by kernel_rfl

set_option maxHeartbeats 16000000 in
theorem walk (k0 k1 m : Int) (a1 : Option Addr) (len1 cap1 : Nat) (ps1 : List Pr) (a2 : Option Addr) (len2 cap2 : Nat) (ps2 : List Pr) (w : World) (h0 : U64 k0) (h1 : U64 k1) (hp1 : ArgP w a1 len1 cap1 ps1) (hp2 : ArgP w a2 len2 cap2 ps2) :
    Calls Tryz.prog 3 #[.agg #[.int .u64 k0, .int .u64 k1, .int .u64 m], .slice a1 len1 cap1, .slice a2 len2 cap2] w fun e w' => e = .returned (.bool true) ∧ Below w.heap.size w w' := by
  have hB0 := (Below.refl _ w).alloc (Nat.le_refl _) (.cells #[.int .u64 k0, .int .u64 k1, .int .u64 m] 26)
  have b1 := Blk.new w 26 #[.int .u64 k0, .int .u64 k1, .int .u64 m]
  have HA1 := Lib.hid hp1
  have HA2 := Lib.hid hp2
  clear hp1 hp2
  go_enter Tryz.func3, Tryz.ntmps3
  go_upto_region 1 with (fail)
  generalize w.alloc (.cells #[.int .u64 k0, .int .u64 k1, .int .u64 m] 26) = W at *
  obtain ⟨N3, hN3⟩ : ∃ N3, N3 = w.heap.size := ⟨_, rfl⟩
  rw [← hN3] at b1 ⊢
  clear hN3
  go_wp2_with fail
  refine (awake_any _).mono ?_
  rintro e w1 ⟨rfl, hB1⟩
  have hH := b1.below hB1
  have hB := hB0.trans (hB1.mono hB0.size)
  clear b1 hB1 hB0
  have s0 : w1.cell? ⟨N3, 0, none⟩ = some (.int .u64 k0) := hH.cell 0
  have s1 : w1.cell? ⟨N3, 1, none⟩ = some (.int .u64 k1) := hH.cell 1
  have s2 : w1.cell? ⟨N3, 2, none⟩ = some (.int .u64 m) := hH.cell 2
  have kt := trie_law (fun _ => False) k0 k1 m h0 h1 a1 len1 cap1 ps1 w1 (fun x h => h.elim) (HA1.out.below (hB.mono (Nat.le_refl _)))
  obtain ⟨hrX, hlX, hsX⟩ := trieL_good ps1
  obtain ⟨hrY, hlY, hsY⟩ := trieL_good ps2
  unfold TrieP at kt
  go_wp2_with fail
  refine kt.mono ?_
  rintro e w2 ⟨ba, vx, rfl, hTa, hOx, hB2⟩
  have hB := hB.trans (hB2.mono hB.size)
  have hH := hH.below hB2
  clear kt s0 s1 s2 hB2
  have s0 : w2.cell? ⟨N3, 0, none⟩ = some (.int .u64 k0) := hH.cell 0
  have s1 : w2.cell? ⟨N3, 1, none⟩ = some (.int .u64 k1) := hH.cell 1
  have s2 : w2.cell? ⟨N3, 2, none⟩ = some (.int .u64 m) := hH.cell 2
  have kt := trie_law (fun _ => False) k0 k1 m h0 h1 a2 len2 cap2 ps2 w2 (fun x h => h.elim) (HA2.out.below (hB.mono (Nat.le_refl _)))
  unfold TrieP at kt
  go_wp2_with fail
  refine kt.mono ?_
  rintro e w3 ⟨bb, vy, rfl, hTb, hOy, hB3⟩
  have hB := hB.trans (hB3.mono hB.size)
  have hH := hH.below hB3
  have hNa := NdR.below _ (Trie.tree _ _ _ _ _ hTa) hB3
  have hNb := Trie.tree _ _ _ _ _ hTb
  obtain ⟨Ax, cx, rfl, hX⟩ := (hOx.below' hB3).rd
  obtain ⟨Ay, cy, rfl, hY⟩ := hOy.rd
  clear kt s0 s1 s2 hB3 hTa hTb hOx hOy HA1 HA2
  generalize w1.heap.size = na at *
  generalize w2.heap.size = nb at *
  generalize trieL ps1 = X at *
  generalize trieL ps2 = Y at *
  have hmx : ∀ x ∈ X, x.1.size ≤ 1000 := fun x hx => Nat.le_trans (hsX x hx).1 (by omega)
  have hXs : SmallR (treeOf (hz k0 k1 m) 13 0 X) := tree_small _ 13 0 X hsX.mid (by omega)
  have hYs : SmallR (treeOf (hz k0 k1 m) 13 0 Y) := tree_small _ 13 0 Y hsY.mid (by omega)
  have eX := enc_small (H := hz k0 k1 m) hsX (by omega)
  have eY := enc_small (H := hz k0 k1 m) hsY (by omega)
  have eXY := enc_same (H := hz k0 k1 m) hsX hsY hrX hrY (by omega) (by omega)
  have tX := tree_right (hz k0 k1 m) X
  have tO := tree_opt (hz k0 k1 m) 13 0 X
  have kRef := fun w' (hR : Rd w' Ax X) => refTrie_any k0 k1 m Ax cx X w' h0 h1 hR (by omega) hmx
  generalize treeOf (hz k0 k1 m) 13 0 X = tx at *
  generalize treeOf (hz k0 k1 m) 13 0 Y = ty at *
  have kOf := fun w' (hn : NdR na w' tx ba) => of_node na tx ba w' hn hXs.fair eX
  have kEnc := fun w' b (hf : RfR w' tx b) => refOfR_any 14 0 tx b w' rfl (by omega) hf hXs.fair eX
  have kEq := fun w' base base' v v' (ha : OwnB base w' v (encR 14 tx)) (hb : OwnB base' w' v' (encR 14 tx)) => refSameB_any base base' v v' _ _ w' ha hb eX
  have kCan := fun w' (hn : NdR na w' tx ba) => canon_any k0 k1 m h0 h1 na tx ba w' hn hXs
  have kSab := fun w' (hn : NdR na w' tx ba) (hn' : NdR nb w' ty bb) => same_node na nb tx ty ba bb w' hn hXs.fair eX hn' hYs.fair eY (fun e => by subst e; exact NdR.enc tx na ba ty nb hn hn' 14)
  have kSaa := fun w' (hn : NdR na w' tx ba) => same_node na na tx tx ba ba w' hn hXs.fair eX hn hXs.fair eX (fun _ => rfl)
  have kSan := fun w' (hn : NdR na w' tx ba) => same_nil na tx ba w' hn hXs.fair tO eX
  have kSxy := fun w' (hx : Rd w' Ax X) (hy : Rd w' Ay Y) => refSame_any Ax Ay cx cy X Y w' hx hy (by omega) (by omega)
  rw [eXY] at kSab
  rw [tX] at kCan
  simp only [decide_true] at kEq kSaa
  unfold hasherV at0 at kCan
  have hdr : Below w3.heap.size w3 w3.drew := (Below.refl _ w3).drew
  have hS0 : (fun w' : World => w'.cell? ⟨N3, 0, none⟩ = some (.int .u64 k0) ∧ w'.cell? ⟨N3, 1, none⟩ = some (.int .u64 k1) ∧ w'.cell? ⟨N3, 2, none⟩ = some (.int .u64 m)) w3.drew := ⟨hH.cell 0, hH.cell 1, hH.cell 2⟩
  replace hNa := NdR.below _ hNa hdr
  replace hNb := NdR.below _ hNb hdr
  replace hX := hX.below hdr
  replace hY := hY.below hdr
  replace hB := hB.drew
  clear hdr hH eXY tX tO eX eY hXs hYs hmx hsX hsY hrX hrY
  generalize encR 14 tx = ex at *
  go_upto_region 5 with (fail)
  refine wp_region_held_drew (S := (fun w' : World => w'.cell? ⟨N3, 0, none⟩ = some (.int .u64 k0) ∧ w'.cell? ⟨N3, 1, none⟩ = some (.int .u64 k1) ∧ w'.cell? ⟨N3, 2, none⟩ = some (.int .u64 m))) (by kernel_rfl) hS0 ?_
  intro hS
  refine wpAnyH_take (i := 0) (oi := { dst := some 25, op := Go.Op.move (Go.Operand.tmp 7), type := 29, pos := "law.go:57", after := #[], guard := none }) (v := .pointer (some ⟨ba, 0, none⟩)) rfl (by kernel_rfl) (by kernel_rfl) (by kernel_rfl) (fun _ _ _ h => h) (Or.inl ⟨by rfl, fun w hSw => ?_⟩) hS ?_
  · go_split_ands
    go_simp
  try simp only [Act.put, List.setIfInBounds_toArray, List.set_cons_zero, List.set_cons_succ]
  refine wpAnyH_take (i := 2) (oi := { dst := some 27, op := Go.Op.load 26 (Go.Operand.tmp 3), type := 26, pos := "law.go:57", after := #[], guard := none }) (v := .agg #[.int .u64 k0, .int .u64 k1, .int .u64 m]) rfl (by kernel_rfl) (by kernel_rfl) (by kernel_rfl) (fun _ _ _ h => h) (Or.inl ⟨by rfl, fun w hSw => ?_⟩) hS ?_
  · go_split_ands
    go_simp
  try simp only [Act.put, List.setIfInBounds_toArray, List.set_cons_zero, List.set_cons_succ]
  refine wpAnyH_take (i := 4) (oi := { dst := some 29, op := Go.Op.move (Go.Operand.tmp 8), type := 30, pos := "law.go:57", after := #[], guard := none }) (v := .slice Ax X.length cx) rfl (by kernel_rfl) (by kernel_rfl) (by kernel_rfl) (fun _ _ _ h => h) (Or.inl ⟨by rfl, fun w hSw => ?_⟩) hS ?_
  · go_split_ands
    go_simp
  try simp only [Act.put, List.setIfInBounds_toArray, List.set_cons_zero, List.set_cons_succ]
  refine wpAnyH_ready (rs := [1]) (by kernel_rfl) (by simp) ?_
  refine AllReadyH.cons (o := { dst := some 26, op := Go.Op.call { callee := Go.Callee.value (Go.Operand.func 11), args := #[Go.Operand.tmp 25], argTypes := #[29] }, type := 34, pos := "law.go:57", after := #[{ on := 0, ground := Go.Ground.data }], guard := none }) rfl (fun K hK => ?_) AllReadyH.nil
  go_simp
  refine (kOf _ hNa).mono ?_
  rintro e wA ⟨v1, rfl, ho1, hBA, -⟩
  obtain ⟨A1, c1, rfl⟩ := own_formN ho1
  go_wp2_with fail
  have hSn := keepH hS hBA
  refine hK.out _ _ hSn (fun _ => ?_)
  clear hK K hS
  try simp only [Act.put, List.setIfInBounds_toArray, List.set_cons_zero, List.set_cons_succ]
  have hS := hSn
  clear hSn
  have hB := hB.trans (hBA.mono hB.size)
  replace hNa := NdR.below _ hNa hBA
  replace hNb := NdR.below _ hNb hBA
  replace hX := hX.below hBA
  replace hY := hY.below hBA
  refine wpAnyH_ready (rs := [3]) (by kernel_rfl) (by simp) ?_
  refine AllReadyH.cons (o := { dst := some 28, op := Go.Op.call { callee := Go.Callee.value (Go.Operand.func 14), args := #[Go.Operand.tmp 27], argTypes := #[26] }, type := 40, pos := "law.go:57", after := #[{ on := 2, ground := Go.Ground.data }, { on := 1, ground := Go.Ground.chain }], guard := none }) rfl (fun K hK => ?_) AllReadyH.nil
  go_simp
  refine (own_any k0 k1 m _).mono ?_
  rintro e wC ⟨rfl, hBC⟩
  go_wp2_with fail
  have hSn := keepH hS hBC
  refine hK.out _ _ hSn (fun _ => ?_)
  clear hK K hS
  try simp only [Act.put, List.setIfInBounds_toArray, List.set_cons_zero, List.set_cons_succ]
  have hS := hSn
  clear hSn
  have hB := hB.trans (hBC.mono hB.size)
  replace hNa := NdR.below _ hNa hBC
  replace hNb := NdR.below _ hNb hBC
  replace hX := hX.below hBC
  replace hY := hY.below hBC
  replace ho1 := ho1.below hBC
  refine wpAnyH_ready (rs := [5]) (by kernel_rfl) (by simp) ?_
  refine AllReadyH.cons (o := { dst := some 30, op := Go.Op.call { callee := Go.Callee.value (Go.Operand.func 13), args := #[Go.Operand.tmp 28, Go.Operand.tmp 29, Go.Operand.const (Go.Value.int Go.IntKind.i64 0)], argTypes := #[40, 30, 3] }, type := 37, pos := "law.go:57", after := #[{ on := 3, ground := Go.Ground.data }, { on := 4, ground := Go.Ground.data }, { on := 3, ground := Go.Ground.chain }], guard := none }) rfl (fun K hK => ?_) AllReadyH.nil
  go_simp
  refine (kRef _ hX).mono ?_
  rintro e wD ⟨rb, rfl, hRf, hBD⟩
  go_wp2_with fail
  have hSn := keepH hS hBD
  refine hK.out _ _ hSn (fun _ => ?_)
  clear hK K hS
  try simp only [Act.put, List.setIfInBounds_toArray, List.set_cons_zero, List.set_cons_succ]
  have hS := hSn
  clear hSn
  have hB := hB.trans (hBD.mono hB.size)
  replace hNa := NdR.below _ hNa hBD
  replace hNb := NdR.below _ hNb hBD
  replace hX := hX.below hBD
  replace hY := hY.below hBD
  replace ho1 := ho1.below hBD
  refine wpAnyH_ready (rs := [6]) (by kernel_rfl) (by simp) ?_
  refine AllReadyH.cons (o := { dst := some 31, op := Go.Op.call { callee := Go.Callee.value (Go.Operand.func 12), args := #[Go.Operand.tmp 30, Go.Operand.const (Go.Value.int Go.IntKind.i64 0)], argTypes := #[37, 3] }, type := 34, pos := "law.go:57", after := #[{ on := 5, ground := Go.Ground.data }, { on := 5, ground := Go.Ground.chain }], guard := none }) rfl (fun K hK => ?_) AllReadyH.nil
  go_simp
  refine (kEnc _ _ hRf).mono ?_
  rintro e wE ⟨v2, rfl, ho2, hBE⟩
  obtain ⟨A2, c2, rfl⟩ := own_formN ho2
  go_wp2_with fail
  have hSn := keepH hS hBE
  refine hK.out _ _ hSn (fun _ => ?_)
  clear hK K hS
  try simp only [Act.put, List.setIfInBounds_toArray, List.set_cons_zero, List.set_cons_succ]
  have hS := hSn
  clear hSn
  have hB := hB.trans (hBE.mono hB.size)
  replace hNa := NdR.below _ hNa hBE
  replace hNb := NdR.below _ hNb hBE
  replace hX := hX.below hBE
  replace hY := hY.below hBE
  replace ho1 := ho1.below hBE
  refine wpAnyH_ready (rs := [7]) (by kernel_rfl) (by simp) ?_
  refine AllReadyH.cons (o := { dst := some 32, op := Go.Op.call { callee := Go.Callee.value (Go.Operand.func 10), args := #[Go.Operand.tmp 26, Go.Operand.tmp 31], argTypes := #[34, 34] }, type := 4, pos := "law.go:57", after := #[{ on := 1, ground := Go.Ground.data }, { on := 6, ground := Go.Ground.data }, { on := 6, ground := Go.Ground.chain }], guard := none }) rfl (fun K hK => ?_) AllReadyH.nil
  go_simp
  refine (kEq _ _ _ _ _ ho1 ho2).mono ?_
  rintro e wF ⟨rfl, nF, rfl⟩
  have hBF := below_drewK wE nF
  go_wp2_with fail
  have hSn := keepH hS hBF
  refine hK.out _ _ hSn (fun _ => ?_)
  clear hK K hS
  try simp only [Act.put, List.setIfInBounds_toArray, List.set_cons_zero, List.set_cons_succ]
  have hS := hSn
  clear hSn
  have hB := hB.trans (hBF.mono hB.size)
  replace hNa := NdR.below _ hNa hBF
  replace hNb := NdR.below _ hNb hBF
  replace hX := hX.below hBF
  replace hY := hY.below hBF
  clear ho1 ho2 hRf
  refine wpAnyH_take (i := 8) (oi := { dst := some 33, op := Go.Op.move (Go.Operand.tmp 32), type := 4, pos := "law.go:57", after := #[{ on := 7, ground := Go.Ground.data }, { on := 7, ground := Go.Ground.chain }], guard := none }) (v := .bool true) rfl (by kernel_rfl) (by kernel_rfl) (by kernel_rfl) (fun _ _ _ h => h) (Or.inl ⟨by rfl, fun w hSw => ?_⟩) hS ?_
  · go_split_ands
    go_simp
  try simp only [Act.put, List.setIfInBounds_toArray, List.set_cons_zero, List.set_cons_succ]
  refine wpAnyH_take (i := 9) (oi := { dst := some 34, op := Go.Op.load 26 (Go.Operand.tmp 3), type := 26, pos := "law.go:57", after := #[{ on := 8, ground := Go.Ground.guard }], guard := some (8, true) }) (v := .agg #[.int .u64 k0, .int .u64 k1, .int .u64 m]) rfl (by kernel_rfl) (by kernel_rfl) (by kernel_rfl) (fun _ _ _ h => h) (Or.inl ⟨by rfl, fun w hSw => ?_⟩) hS ?_
  · go_split_ands
    go_simp
  try simp only [Act.put, List.setIfInBounds_toArray, List.set_cons_zero, List.set_cons_succ]
  refine wpAnyH_take (i := 10) (oi := { dst := some 35, op := Go.Op.move (Go.Operand.tmp 7), type := 29, pos := "law.go:57", after := #[{ on := 8, ground := Go.Ground.guard }], guard := some (8, true) }) (v := .pointer (some ⟨ba, 0, none⟩)) rfl (by kernel_rfl) (by kernel_rfl) (by kernel_rfl) (fun _ _ _ h => h) (Or.inl ⟨by rfl, fun w hSw => ?_⟩) hS ?_
  · go_split_ands
    go_simp
  try simp only [Act.put, List.setIfInBounds_toArray, List.set_cons_zero, List.set_cons_succ]
  refine wpAnyH_ready (rs := [11]) (by kernel_rfl) (by simp) ?_
  refine AllReadyH.cons (o := { dst := some 36, op := Go.Op.call { callee := Go.Callee.value (Go.Operand.func 15), args := #[Go.Operand.tmp 34, Go.Operand.tmp 35], argTypes := #[26, 29] }, type := 4, pos := "law.go:57", after := #[{ on := 9, ground := Go.Ground.data }, { on := 10, ground := Go.Ground.data }, { on := 8, ground := Go.Ground.chain }, { on := 8, ground := Go.Ground.guard }], guard := some (8, true) }) rfl (fun K hK => ?_) AllReadyH.nil
  go_simp
  refine (kCan _ hNa).mono ?_
  rintro e wG ⟨rfl, hBG⟩
  go_wp2_with fail
  have hSn := keepH hS hBG
  refine hK.out _ _ hSn (fun _ => ?_)
  clear hK K hS
  try simp only [Act.put, List.setIfInBounds_toArray, List.set_cons_zero, List.set_cons_succ]
  have hS := hSn
  clear hSn
  have hB := hB.trans (hBG.mono hB.size)
  replace hNa := NdR.below _ hNa hBG
  replace hNb := NdR.below _ hNb hBG
  replace hX := hX.below hBG
  replace hY := hY.below hBG
  refine wpAnyH_take (i := 12) (oi := { dst := some 37, op := Go.Op.pick (Go.Operand.tmp 33) (Go.Operand.tmp 36) (Go.Operand.const (Go.Value.bool false)), type := 4, pos := "law.go:57", after := #[{ on := 8, ground := Go.Ground.data }, { on := 11, ground := Go.Ground.data }], guard := none }) (v := .bool true) rfl (by kernel_rfl) (by kernel_rfl) (by kernel_rfl) (fun _ _ _ h => h) (Or.inl ⟨by rfl, fun w hSw => ?_⟩) hS ?_
  · go_split_ands
    go_simp
  try simp only [Act.put, List.setIfInBounds_toArray, List.set_cons_zero, List.set_cons_succ]
  refine wpAnyH_take (i := 13) (oi := { dst := some 38, op := Go.Op.move (Go.Operand.tmp 37), type := 4, pos := "law.go:57", after := #[{ on := 12, ground := Go.Ground.data }, { on := 11, ground := Go.Ground.chain }], guard := none }) (v := .bool true) rfl (by kernel_rfl) (by kernel_rfl) (by kernel_rfl) (fun _ _ _ h => h) (Or.inl ⟨by rfl, fun w hSw => ?_⟩) hS ?_
  · go_split_ands
    go_simp
  try simp only [Act.put, List.setIfInBounds_toArray, List.set_cons_zero, List.set_cons_succ]
  refine wpAnyH_take (i := 14) (oi := { dst := some 39, op := Go.Op.move (Go.Operand.tmp 7), type := 29, pos := "law.go:57", after := #[{ on := 13, ground := Go.Ground.guard }], guard := some (13, true) }) (v := .pointer (some ⟨ba, 0, none⟩)) rfl (by kernel_rfl) (by kernel_rfl) (by kernel_rfl) (fun _ _ _ h => h) (Or.inl ⟨by rfl, fun w hSw => ?_⟩) hS ?_
  · go_split_ands
    go_simp
  try simp only [Act.put, List.setIfInBounds_toArray, List.set_cons_zero, List.set_cons_succ]
  refine wpAnyH_take (i := 15) (oi := { dst := some 40, op := Go.Op.move (Go.Operand.tmp 9), type := 29, pos := "law.go:57", after := #[{ on := 13, ground := Go.Ground.guard }], guard := some (13, true) }) (v := .pointer (some ⟨bb, 0, none⟩)) rfl (by kernel_rfl) (by kernel_rfl) (by kernel_rfl) (fun _ _ _ h => h) (Or.inl ⟨by rfl, fun w hSw => ?_⟩) hS ?_
  · go_split_ands
    go_simp
  try simp only [Act.put, List.setIfInBounds_toArray, List.set_cons_zero, List.set_cons_succ]
  refine wpAnyH_take (i := 17) (oi := { dst := some 42, op := Go.Op.move (Go.Operand.tmp 8), type := 30, pos := "law.go:57", after := #[{ on := 13, ground := Go.Ground.guard }], guard := some (13, true) }) (v := .slice Ax X.length cx) rfl (by kernel_rfl) (by kernel_rfl) (by kernel_rfl) (fun _ _ _ h => h) (Or.inl ⟨by rfl, fun w hSw => ?_⟩) hS ?_
  · go_split_ands
    go_simp
  try simp only [Act.put, List.setIfInBounds_toArray, List.set_cons_zero, List.set_cons_succ]
  refine wpAnyH_take (i := 18) (oi := { dst := some 43, op := Go.Op.move (Go.Operand.tmp 10), type := 30, pos := "law.go:57", after := #[{ on := 13, ground := Go.Ground.guard }], guard := some (13, true) }) (v := .slice Ay Y.length cy) rfl (by kernel_rfl) (by kernel_rfl) (by kernel_rfl) (fun _ _ _ h => h) (Or.inl ⟨by rfl, fun w hSw => ?_⟩) hS ?_
  · go_split_ands
    go_simp
  try simp only [Act.put, List.setIfInBounds_toArray, List.set_cons_zero, List.set_cons_succ]
  refine wpAnyH_ready (rs := [16]) (by kernel_rfl) (by simp) ?_
  refine AllReadyH.cons (o := { dst := some 41, op := Go.Op.call { callee := Go.Callee.value (Go.Operand.func 16), args := #[Go.Operand.tmp 39, Go.Operand.tmp 40], argTypes := #[29, 29] }, type := 4, pos := "law.go:57", after := #[{ on := 14, ground := Go.Ground.data }, { on := 15, ground := Go.Ground.data }, { on := 13, ground := Go.Ground.chain }, { on := 13, ground := Go.Ground.guard }], guard := some (13, true) }) rfl (fun K hK => ?_) AllReadyH.nil
  go_simp
  refine (kSab _ hNa hNb).mono ?_
  rintro e wH ⟨rfl, hBH⟩
  go_wp2_with fail
  have hSn := keepH hS hBH
  refine hK.out _ _ hSn (fun _ => ?_)
  clear hK K hS
  try simp only [Act.put, List.setIfInBounds_toArray, List.set_cons_zero, List.set_cons_succ]
  have hS := hSn
  clear hSn
  have hB := hB.trans (hBH.mono hB.size)
  replace hNa := NdR.below _ hNa hBH
  replace hNb := NdR.below _ hNb hBH
  replace hX := hX.below hBH
  replace hY := hY.below hBH
  refine wpAnyH_ready (rs := [19]) (by kernel_rfl) (by simp) ?_
  refine AllReadyH.cons (o := { dst := some 44, op := Go.Op.call { callee := Go.Callee.value (Go.Operand.func 17), args := #[Go.Operand.tmp 42, Go.Operand.tmp 43], argTypes := #[30, 30] }, type := 4, pos := "law.go:57", after := #[{ on := 17, ground := Go.Ground.data }, { on := 18, ground := Go.Ground.data }, { on := 16, ground := Go.Ground.chain }, { on := 13, ground := Go.Ground.guard }], guard := some (13, true) }) rfl (fun K hK => ?_) AllReadyH.nil
  go_simp
  refine (kSxy _ hX hY).mono ?_
  rintro e wI ⟨rfl, nI, rfl⟩
  have hBI := below_drewK wH nI
  go_wp2_with fail
  have hSn := keepH hS hBI
  refine hK.out _ _ hSn (fun _ => ?_)
  clear hK K hS
  try simp only [Act.put, List.setIfInBounds_toArray, List.set_cons_zero, List.set_cons_succ]
  have hS := hSn
  clear hSn
  have hB := hB.trans (hBI.mono hB.size)
  replace hNa := NdR.below _ hNa hBI
  replace hNb := NdR.below _ hNb hBI
  replace hX := hX.below hBI
  replace hY := hY.below hBI
  refine wpAnyH_take (i := 20) (oi := { dst := some 45, op := Go.Op.binOp Go.BinOp.eql 4 (Go.Operand.tmp 41) (Go.Operand.tmp 44) 4, type := 4, pos := "law.go:57", after := #[{ on := 16, ground := Go.Ground.data }, { on := 19, ground := Go.Ground.data }, { on := 13, ground := Go.Ground.guard }], guard := some (13, true) }) (v := .bool true) rfl (by kernel_rfl) (by kernel_rfl) (by kernel_rfl) (fun _ _ _ h => h) (Or.inl ⟨by rfl, fun w hSw => ?_⟩) hS ?_
  · go_split_ands
    go_simp
  try simp only [Act.put, List.setIfInBounds_toArray, List.set_cons_zero, List.set_cons_succ]
  refine wpAnyH_take (i := 21) (oi := { dst := some 46, op := Go.Op.pick (Go.Operand.tmp 38) (Go.Operand.tmp 45) (Go.Operand.const (Go.Value.bool false)), type := 4, pos := "law.go:57", after := #[{ on := 13, ground := Go.Ground.data }, { on := 20, ground := Go.Ground.data }], guard := none }) (v := .bool true) rfl (by kernel_rfl) (by kernel_rfl) (by kernel_rfl) (fun _ _ _ h => h) (Or.inl ⟨by rfl, fun w hSw => ?_⟩) hS ?_
  · go_split_ands
    go_simp
  try simp only [Act.put, List.setIfInBounds_toArray, List.set_cons_zero, List.set_cons_succ]
  refine wpAnyH_take (i := 22) (oi := { dst := some 47, op := Go.Op.move (Go.Operand.tmp 46), type := 4, pos := "law.go:57", after := #[{ on := 21, ground := Go.Ground.data }, { on := 19, ground := Go.Ground.chain }], guard := none }) (v := .bool true) rfl (by kernel_rfl) (by kernel_rfl) (by kernel_rfl) (fun _ _ _ h => h) (Or.inl ⟨by rfl, fun w hSw => ?_⟩) hS ?_
  · go_split_ands
    go_simp
  try simp only [Act.put, List.setIfInBounds_toArray, List.set_cons_zero, List.set_cons_succ]
  refine wpAnyH_take (i := 23) (oi := { dst := some 48, op := Go.Op.move (Go.Operand.tmp 7), type := 29, pos := "law.go:57", after := #[{ on := 22, ground := Go.Ground.guard }], guard := some (22, true) }) (v := .pointer (some ⟨ba, 0, none⟩)) rfl (by kernel_rfl) (by kernel_rfl) (by kernel_rfl) (fun _ _ _ h => h) (Or.inl ⟨by rfl, fun w hSw => ?_⟩) hS ?_
  · go_split_ands
    go_simp
  try simp only [Act.put, List.setIfInBounds_toArray, List.set_cons_zero, List.set_cons_succ]
  refine wpAnyH_take (i := 24) (oi := { dst := some 49, op := Go.Op.move (Go.Operand.tmp 7), type := 29, pos := "law.go:57", after := #[{ on := 22, ground := Go.Ground.guard }], guard := some (22, true) }) (v := .pointer (some ⟨ba, 0, none⟩)) rfl (by kernel_rfl) (by kernel_rfl) (by kernel_rfl) (fun _ _ _ h => h) (Or.inl ⟨by rfl, fun w hSw => ?_⟩) hS ?_
  · go_split_ands
    go_simp
  try simp only [Act.put, List.setIfInBounds_toArray, List.set_cons_zero, List.set_cons_succ]
  refine wpAnyH_ready (rs := [25]) (by kernel_rfl) (by simp) ?_
  refine AllReadyH.cons (o := { dst := some 50, op := Go.Op.call { callee := Go.Callee.value (Go.Operand.func 16), args := #[Go.Operand.tmp 48, Go.Operand.tmp 49], argTypes := #[29, 29] }, type := 4, pos := "law.go:57", after := #[{ on := 23, ground := Go.Ground.data }, { on := 24, ground := Go.Ground.data }, { on := 22, ground := Go.Ground.chain }, { on := 22, ground := Go.Ground.guard }], guard := some (22, true) }) rfl (fun K hK => ?_) AllReadyH.nil
  go_simp
  refine (kSaa _ hNa).mono ?_
  rintro e wJ ⟨rfl, hBJ⟩
  go_wp2_with fail
  have hSn := keepH hS hBJ
  refine hK.out _ _ hSn (fun _ => ?_)
  clear hK K hS
  try simp only [Act.put, List.setIfInBounds_toArray, List.set_cons_zero, List.set_cons_succ]
  have hS := hSn
  clear hSn
  have hB := hB.trans (hBJ.mono hB.size)
  replace hNa := NdR.below _ hNa hBJ
  replace hNb := NdR.below _ hNb hBJ
  replace hX := hX.below hBJ
  replace hY := hY.below hBJ
  refine wpAnyH_take (i := 26) (oi := { dst := some 51, op := Go.Op.pick (Go.Operand.tmp 47) (Go.Operand.tmp 50) (Go.Operand.const (Go.Value.bool false)), type := 4, pos := "law.go:57", after := #[{ on := 22, ground := Go.Ground.data }, { on := 25, ground := Go.Ground.data }], guard := none }) (v := .bool true) rfl (by kernel_rfl) (by kernel_rfl) (by kernel_rfl) (fun _ _ _ h => h) (Or.inl ⟨by rfl, fun w hSw => ?_⟩) hS ?_
  · go_split_ands
    go_simp
  try simp only [Act.put, List.setIfInBounds_toArray, List.set_cons_zero, List.set_cons_succ]
  refine wpAnyH_take (i := 27) (oi := { dst := some 52, op := Go.Op.move (Go.Operand.tmp 51), type := 4, pos := "law.go:57", after := #[{ on := 26, ground := Go.Ground.data }, { on := 25, ground := Go.Ground.chain }], guard := none }) (v := .bool true) rfl (by kernel_rfl) (by kernel_rfl) (by kernel_rfl) (fun _ _ _ h => h) (Or.inl ⟨by rfl, fun w hSw => ?_⟩) hS ?_
  · go_split_ands
    go_simp
  try simp only [Act.put, List.setIfInBounds_toArray, List.set_cons_zero, List.set_cons_succ]
  refine wpAnyH_ready (rs := [28]) (by kernel_rfl) (by simp) ?_
  refine AllReadyH.cons (o := { dst := some 53, op := Go.Op.call { callee := Go.Callee.value (Go.Operand.func 16), args := #[Go.Operand.const (Go.Value.pointer none), Go.Operand.const (Go.Value.pointer none)], argTypes := #[29, 29] }, type := 4, pos := "law.go:57", after := #[{ on := 27, ground := Go.Ground.chain }, { on := 27, ground := Go.Ground.guard }], guard := some (27, true) }) rfl (fun K hK => ?_) AllReadyH.nil
  go_simp
  refine (same_nils _).mono ?_
  rintro e wK ⟨rfl, hBK⟩
  go_wp2_with fail
  have hSn := keepH hS hBK
  refine hK.out _ _ hSn (fun _ => ?_)
  clear hK K hS
  try simp only [Act.put, List.setIfInBounds_toArray, List.set_cons_zero, List.set_cons_succ]
  have hS := hSn
  clear hSn
  have hB := hB.trans (hBK.mono hB.size)
  replace hNa := NdR.below _ hNa hBK
  replace hNb := NdR.below _ hNb hBK
  replace hX := hX.below hBK
  replace hY := hY.below hBK
  refine wpAnyH_take (i := 29) (oi := { dst := some 54, op := Go.Op.pick (Go.Operand.tmp 52) (Go.Operand.tmp 53) (Go.Operand.const (Go.Value.bool false)), type := 4, pos := "law.go:57", after := #[{ on := 27, ground := Go.Ground.data }, { on := 28, ground := Go.Ground.data }], guard := none }) (v := .bool true) rfl (by kernel_rfl) (by kernel_rfl) (by kernel_rfl) (fun _ _ _ h => h) (Or.inl ⟨by rfl, fun w hSw => ?_⟩) hS ?_
  · go_split_ands
    go_simp
  try simp only [Act.put, List.setIfInBounds_toArray, List.set_cons_zero, List.set_cons_succ]
  refine wpAnyH_take (i := 30) (oi := { dst := some 55, op := Go.Op.move (Go.Operand.tmp 54), type := 4, pos := "law.go:57", after := #[{ on := 29, ground := Go.Ground.data }, { on := 28, ground := Go.Ground.chain }], guard := none }) (v := .bool true) rfl (by kernel_rfl) (by kernel_rfl) (by kernel_rfl) (fun _ _ _ h => h) (Or.inl ⟨by rfl, fun w hSw => ?_⟩) hS ?_
  · go_split_ands
    go_simp
  try simp only [Act.put, List.setIfInBounds_toArray, List.set_cons_zero, List.set_cons_succ]
  refine wpAnyH_take (i := 31) (oi := { dst := some 56, op := Go.Op.move (Go.Operand.tmp 7), type := 29, pos := "law.go:57", after := #[{ on := 30, ground := Go.Ground.guard }], guard := some (30, true) }) (v := .pointer (some ⟨ba, 0, none⟩)) rfl (by kernel_rfl) (by kernel_rfl) (by kernel_rfl) (fun _ _ _ h => h) (Or.inl ⟨by rfl, fun w hSw => ?_⟩) hS ?_
  · go_split_ands
    go_simp
  try simp only [Act.put, List.setIfInBounds_toArray, List.set_cons_zero, List.set_cons_succ]
  refine wpAnyH_ready (rs := [32]) (by kernel_rfl) (by simp) ?_
  refine AllReadyH.cons (o := { dst := some 57, op := Go.Op.call { callee := Go.Callee.value (Go.Operand.func 16), args := #[Go.Operand.tmp 56, Go.Operand.const (Go.Value.pointer none)], argTypes := #[29, 29] }, type := 4, pos := "law.go:57", after := #[{ on := 31, ground := Go.Ground.data }, { on := 30, ground := Go.Ground.chain }, { on := 30, ground := Go.Ground.guard }], guard := some (30, true) }) rfl (fun K hK => ?_) AllReadyH.nil
  go_simp
  refine (kSan _ hNa).mono ?_
  rintro e wL ⟨rfl, hBL⟩
  go_wp2_with fail
  have hSn := keepH hS hBL
  refine hK.out _ _ hSn (fun _ => ?_)
  clear hK K hS
  try simp only [Act.put, List.setIfInBounds_toArray, List.set_cons_zero, List.set_cons_succ]
  have hS := hSn
  clear hSn
  have hB := hB.trans (hBL.mono hB.size)
  replace hNa := NdR.below _ hNa hBL
  replace hNb := NdR.below _ hNb hBL
  replace hX := hX.below hBL
  replace hY := hY.below hBL
  refine wpAnyH_take (i := 33) (oi := { dst := some 58, op := Go.Op.unOp Go.UnOp.not 4 (Go.Operand.tmp 57), type := 4, pos := "law.go:57", after := #[{ on := 32, ground := Go.Ground.data }, { on := 30, ground := Go.Ground.guard }], guard := some (30, true) }) (v := .bool true) rfl (by kernel_rfl) (by kernel_rfl) (by kernel_rfl) (fun _ _ _ h => h) (Or.inl ⟨by rfl, fun w hSw => ?_⟩) hS ?_
  · go_split_ands
    go_simp
  try simp only [Act.put, List.setIfInBounds_toArray, List.set_cons_zero, List.set_cons_succ]
  refine wpAnyH_take (i := 34) (oi := { dst := some 59, op := Go.Op.pick (Go.Operand.tmp 55) (Go.Operand.tmp 58) (Go.Operand.const (Go.Value.bool false)), type := 4, pos := "law.go:57", after := #[{ on := 30, ground := Go.Ground.data }, { on := 33, ground := Go.Ground.data }], guard := none }) (v := .bool true) rfl (by kernel_rfl) (by kernel_rfl) (by kernel_rfl) (fun _ _ _ h => h) (Or.inl ⟨by rfl, fun w hSw => ?_⟩) hS ?_
  · go_split_ands
    go_simp
  try simp only [Act.put, List.setIfInBounds_toArray, List.set_cons_zero, List.set_cons_succ]
  refine wpAnyH_take (i := 35) (oi := { dst := some 6, op := Go.Op.assign (Go.Operand.tmp 59), type := 4, pos := "law.go:57", after := #[{ on := 34, ground := Go.Ground.data }, { on := 32, ground := Go.Ground.chain }, { on := 0, ground := Go.Ground.phase }, { on := 1, ground := Go.Ground.phase }, { on := 2, ground := Go.Ground.phase }, { on := 3, ground := Go.Ground.phase }, { on := 4, ground := Go.Ground.phase }, { on := 5, ground := Go.Ground.phase }, { on := 6, ground := Go.Ground.phase }, { on := 7, ground := Go.Ground.phase }, { on := 8, ground := Go.Ground.phase }, { on := 9, ground := Go.Ground.phase }, { on := 10, ground := Go.Ground.phase }, { on := 11, ground := Go.Ground.phase }, { on := 12, ground := Go.Ground.phase }, { on := 13, ground := Go.Ground.phase }, { on := 14, ground := Go.Ground.phase }, { on := 15, ground := Go.Ground.phase }, { on := 16, ground := Go.Ground.phase }, { on := 17, ground := Go.Ground.phase }, { on := 18, ground := Go.Ground.phase }, { on := 19, ground := Go.Ground.phase }, { on := 20, ground := Go.Ground.phase }, { on := 21, ground := Go.Ground.phase }, { on := 22, ground := Go.Ground.phase }, { on := 23, ground := Go.Ground.phase }, { on := 24, ground := Go.Ground.phase }, { on := 25, ground := Go.Ground.phase }, { on := 26, ground := Go.Ground.phase }, { on := 27, ground := Go.Ground.phase }, { on := 28, ground := Go.Ground.phase }, { on := 29, ground := Go.Ground.phase }, { on := 30, ground := Go.Ground.phase }, { on := 31, ground := Go.Ground.phase }, { on := 32, ground := Go.Ground.phase }, { on := 33, ground := Go.Ground.phase }, { on := 34, ground := Go.Ground.phase }], guard := none }) (v := .bool true) rfl (by kernel_rfl) (by kernel_rfl) (by kernel_rfl) (fun _ _ _ h => h) (Or.inl ⟨by rfl, fun w hSw => ?_⟩) hS ?_
  · go_split_ands
    go_simp
  try simp only [Act.put, List.setIfInBounds_toArray, List.set_cons_zero, List.set_cons_succ]
  refine wpAnyH_done (by kernel_rfl) ?_ _
  go_wp2_with fail
  go_ret
  exact ⟨rfl, hB⟩

/-! ### THE ROW's STEP -/
set_option maxRecDepth 100000 in
theorem lifted (os : Os) (started : os.Started) (H : Type) (enc : TypeId × Value → H) :
    ReturnsInHanded {} Tryz.checked os 3 .any (Rows.shapeTriesSpec.pre6 enc Tryz.prog Tryz.f3 Rows.shapeTriesRow.domain false) (Rows.shapeTriesSpec.post enc Tryz.prog Tryz.f3 false true false false) := by
  refine returnsInHanded_of_change (C := Tryz.checked) own started (by kernel_rfl) Tryz.func3
    (ChangeSpec.witness6 (enc := enc) (C := Tryz.checked) false ⟨#[], #[.agg #[.int .u64 0, .int .u64 0, .int .u64 0], .slice none 0 0, .slice none 0 0], []⟩ 8 (by kernel_rfl) (by kernel_rfl) (by kernel_rfl) (by kernel_rfl)) ?_
  intro W base args ds gs before hval0 hW hcnd _
  have hval : ∀ (j : Nat) t v, Tryz.f3.params[j]? = some t → args[j]? = some v → Value.okWide Tryz.prog W .any base t v := hval0
  have hW' := hW
  obtain ⟨p, q, hA0, hV, rfl, hfz, hnd⟩ := hW
  have hA : DataW.TrodAll enc Tryz.prog W 0 (fun _ => true) true Tryz.f3.params.toList args.toList ds p := hA0
  rw [Tryz.params3] at hA hval
  obtain ⟨v0, vs0, d0, ds0, p0, q0, hargs, rfl, rfl, h0, r0⟩ := trodAll_cons hA
  obtain ⟨v1, vs1, d1, ds1, p1, q1, rfl, rfl, rfl, h1, r1⟩ := trodAll_cons r0
  obtain ⟨v2, vs2, d2, ds2, p2, q2, rfl, rfl, rfl, h2, r2⟩ := trodAll_cons r1
  obtain ⟨rfl, rfl, rfl⟩ := trodAll_nil r2
  obtain rfl : args = #[v0, v1, v2] := by cases args; simp_all
  obtain ⟨rfl, rfl⟩ := trodVars_none hV
  have k0 := h0
  have lt0 : ∀ x ∈ p0, x.block < W.heap.size := by obtain ⟨m, hm⟩ := k0; exact DataW.trod_lt m _ _ _ hm
  obtain ⟨x0, y0, m0, rfl, u0, t0, r0_⟩ := open_hasher (hval 0 26 v0 rfl rfl) h0
  obtain ⟨a1, len1, cap1, rfl⟩ := okWide_slice Tryz.underlying27 (hval 1 27 v1 rfl rfl)
  have k1 := h1
  have lt1 : ∀ x ∈ p1, x.block < W.heap.size := by obtain ⟨m, hm⟩ := k1; exact DataW.trod_lt m _ _ _ hm
  obtain ⟨z1, w1⟩ := open_pairs h1
  obtain ⟨a2, len2, cap2, rfl⟩ := okWide_slice Tryz.underlying27 (hval 2 27 v2 rfl rfl)
  have k2 := h2
  have lt2 : ∀ x ∈ p2, x.block < W.heap.size := by obtain ⟨m, hm⟩ := k2; exact DataW.trod_lt m _ _ _ hm
  obtain ⟨z2, w2⟩ := open_pairs h2
  clear hA0 hval0
  refine (walk x0 y0 m0 a1 len1 cap1 z1 a2 len2 cap2 z2 W u0 t0 w1 w2).mono fun e W' ⟨he, bel⟩ => ?_
  subst he
  exact ⟨_, rfl, _, _, _, [], _, [], hW', trodAll_mk1 (shut_bool Tryz.underlying4 _), (trodAll_cons_mk (Below.trod laidOut (by kernel_rfl) (of_decide_eq_true (by kernel_rfl)) k0 bel lt0) (trodAll_cons_mk (Below.trod laidOut (by kernel_rfl) (of_decide_eq_true (by kernel_rfl)) k1 bel lt1) (trodAll_cons_mk (Below.trod laidOut (by kernel_rfl) (of_decide_eq_true (by kernel_rfl)) k2 bel lt2) trodAll_mk0))), rfl, bel.frame _, fun h => by cases h⟩

theorem over : Rows.shapeTriesRow.holds Tryz.pinned (OpenSpec.ofChange Rows.shapeTriesSpec) :=
  OpenClaim.holds_of_wide 3 Tryz.f3 rfl rfl rfl rfl rfl rfl rfl ⟨rfl, rfl, rfl, rfl, rfl⟩ rfl rfl rfl rfl rfl (by kernel_rfl) Tryz.func3 (by kernel_rfl)
    (of_decide_eq_true (by kernel_rfl)) (by unfold Func.isWrapper; first | (rw [if_pos (by decide +kernel)]; kernel_rfl) | (rw [if_neg (by decide +kernel)]; exact ⟨rfl, rfl⟩))
    (fun os started H enc _ => lifted os started H enc)

theorem proved : Rows.ShapeTriesSaid := over
#print axioms proved
end Go.Proofs.YtchimfgbdfmegaaGreat.shapeTries
