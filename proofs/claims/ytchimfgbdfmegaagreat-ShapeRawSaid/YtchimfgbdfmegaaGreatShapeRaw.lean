/- ShapeRaw: for every hasher and every script of nodes that are built the law returns true: any nodes look as the document says, and are canonical just if they are the trie of their pairs. Conditions: none beyond the given statement. -/
import Derived.Test.YtchimfgbdfmegaaGreatRows
import Derived.WalkKit
import Derived.ProofKit
import Derived.OpenShut
import Derived.ShutString
import Derived.ChangeOld
import Derived.Below
import Derived.BigQuiet
import Derived.Deep.RegionHeld3
import Derived.Carry
import Derived.Lib.SmallJoins
import Derived.Test.YtchimfgbdfmegaaGreatGax
namespace Go.Proofs.YtchimfgbdfmegaaGreat.shapeRaw
open Go.ChangeShapes Go.WideShapes Go.ChangeAt Go.RowKit Go.Joins Go.Lib
open Go.ChangeMaps (open_string shut_string)
set_option linter.unusedVariables false
set_option linter.unusedSimpArgs false
set_option maxRecDepth 100000
attribute [local irreducible] cnt

theorem own : ownKnob Tryz.prog.godebug = none := by kernel_rfl
theorem laidOut : laidOutB Tryz.prog = true := by kernel_rfl

set_option maxHeartbeats 16000000 in
theorem walk (k0 k1 m : Int) (a1 : Option Addr) (len1 cap1 : Nat) (w : World) (h0 : U64 k0) (h1 : U64 k1) (hA : ArgW w a1 len1 cap1) :
    Calls Tryz.prog 4 #[.agg #[.int .u64 k0, .int .u64 k1, .int .u64 m], .slice a1 len1 cap1] w fun e w' => e = .returned (.bool true) ∧ Below w.heap.size w w' := by
  have hB0 := (Below.refl _ w).alloc (Nat.le_refl _) (.cells #[.int .u64 k0, .int .u64 k1, .int .u64 m] 26)
  have b1 := Blk.new w 26 #[.int .u64 k0, .int .u64 k1, .int .u64 m]
  have HA := Lib.hid hA
  clear hA
  go_enter Tryz.func4, Tryz.ntmps4
  go_upto_region 1 with (fail)
  generalize w.alloc (.cells #[.int .u64 k0, .int .u64 k1, .int .u64 m] 26) = W at *
  obtain ⟨N5, hN5⟩ : ∃ N5, N5 = w.heap.size := ⟨_, rfl⟩
  rw [← hN5] at b1 ⊢
  clear hN5
  go_wp2_with fail
  refine (awake_any _).mono ?_
  rintro e w1 ⟨rfl, hB1⟩
  have hH := b1.below hB1
  have hB := hB0.trans (hB1.mono hB0.size)
  clear b1 hB1 hB0
  have kb := built_any a1 len1 cap1 w1 (HA.out.below hB)
  go_wp2_with fail
  refine kb.mono ?_
  rintro e w2 ⟨b, T, rfl, P, K, n, mm, hR, hF, hk, hn, hm, -, hB2⟩
  have hH := hH.below hB2
  have hB := hB.trans (hB2.mono hB.size)
  have hN := hR.node
  clear kb hB2 hR HA
  generalize w1.heap.size = nb at *
  generalize (RT.inner P K) = t at *
  have kOf := fun w' (hn : NdR nb w' t b) => of_node nb t b w' hn hk.small.fair (by have := hk.enc 14; omega)
  have kEnc := fun w' (hf : RfN (fun _ => False) w' t T) => refOfR_any 14 0 t T w' rfl (by omega) (RfN.rf t _ T hf) hk.small.fair (by have := hk.enc 14; omega)
  have kEq := fun w' base base' v v' (ha : OwnB base w' v (encR 14 t)) (hb : OwnB base' w' v' (encR 14 t)) => refSameB_any base base' v v' _ _ w' ha hb (by have := hk.enc 14; omega)
  have kCan := fun w' (hn : NdR nb w' t b) => canon_any k0 k1 m h0 h1 nb t b w' hn hk.small
  have kRef := fun w' (hf : RfN (fun _ => False) w' t T) => refCanon_any k0 k1 m h0 h1 (fun _ => False) t T w' hf hk.good hk.small (hk.short 13) (Nat.le_trans (hk.all 13) (by omega)) (by have := hk.enc 14; omega)
  simp only [decide_true] at kEq
  unfold hasherV at0 at kCan
  have hdr : Below w2.heap.size w2 w2.drew := (Below.refl _ w2).drew
  have hS0 : (fun w' : World => w'.cell? ⟨N5, 0, none⟩ = some (.int .u64 k0) ∧ w'.cell? ⟨N5, 1, none⟩ = some (.int .u64 k1) ∧ w'.cell? ⟨N5, 2, none⟩ = some (.int .u64 m)) w2.drew := ⟨hH.cell 0, hH.cell 1, hH.cell 2⟩
  replace hN := NdR.below _ hN hdr
  replace hF := RfN.below _ hF hdr
  replace hB := hB.drew
  clear hdr hH hk
  generalize rightB (hz k0 k1 m) 13 t [] = r at *
  generalize encR 14 t = ex at *
  go_upto_region 4 with (fail)
  refine wp_region_held_drew (S := (fun w' : World => w'.cell? ⟨N5, 0, none⟩ = some (.int .u64 k0) ∧ w'.cell? ⟨N5, 1, none⟩ = some (.int .u64 k1) ∧ w'.cell? ⟨N5, 2, none⟩ = some (.int .u64 m))) (by kernel_rfl) hS0 ?_
  intro hS
  refine wpAnyH_take (i := 0) (oi := { dst := some 14, op := Go.Op.move (Go.Operand.tmp 5), type := 29, pos := "law.go:112", after := #[], guard := none }) (v := .pointer (some ⟨b, 0, none⟩)) rfl (by kernel_rfl) (by kernel_rfl) (by kernel_rfl) (fun _ _ _ h => h) (Or.inl ⟨by rfl, fun w hSw => ?_⟩) hS ?_
  · go_split_ands
    go_simp
  try simp only [Act.put, List.setIfInBounds_toArray, List.set_cons_zero, List.set_cons_succ]
  refine wpAnyH_take (i := 2) (oi := { dst := some 16, op := Go.Op.move (Go.Operand.tmp 6), type := 37, pos := "law.go:112", after := #[], guard := none }) (v := .pointer (some ⟨T, 0, none⟩)) rfl (by kernel_rfl) (by kernel_rfl) (by kernel_rfl) (fun _ _ _ h => h) (Or.inl ⟨by rfl, fun w hSw => ?_⟩) hS ?_
  · go_split_ands
    go_simp
  try simp only [Act.put, List.setIfInBounds_toArray, List.set_cons_zero, List.set_cons_succ]
  refine wpAnyH_ready (rs := [1]) (by kernel_rfl) (by simp) ?_
  refine AllReadyH.cons (o := { dst := some 15, op := Go.Op.call { callee := Go.Callee.value (Go.Operand.func 11), args := #[Go.Operand.tmp 14], argTypes := #[29] }, type := 34, pos := "law.go:112", after := #[{ on := 0, ground := Go.Ground.data }], guard := none }) rfl (fun K hK => ?_) AllReadyH.nil
  go_simp
  refine (kOf _ hN).mono ?_
  rintro e wA ⟨v1, rfl, ho1, hBA, -⟩
  obtain ⟨A1, c1, rfl⟩ := own_formN ho1
  go_wp2_with fail
  have hSn := keepH hS hBA
  refine hK.out _ _ hSn (fun _ => ?_)
  clear hK K hS
  try simp only [Act.put, List.setIfInBounds_toArray, List.set_cons_zero, List.set_cons_succ]
  have hS := hSn
  clear hSn
  have hB := hB.trans (hBA.mono hB.size)
  replace hN := NdR.below _ hN hBA
  replace hF := RfN.below _ hF hBA
  refine wpAnyH_ready (rs := [3]) (by kernel_rfl) (by simp) ?_
  refine AllReadyH.cons (o := { dst := some 17, op := Go.Op.call { callee := Go.Callee.value (Go.Operand.func 12), args := #[Go.Operand.tmp 16, Go.Operand.const (Go.Value.int Go.IntKind.i64 0)], argTypes := #[37, 3] }, type := 34, pos := "law.go:112", after := #[{ on := 2, ground := Go.Ground.data }, { on := 1, ground := Go.Ground.chain }], guard := none }) rfl (fun K hK => ?_) AllReadyH.nil
  go_simp
  refine (kEnc _ hF).mono ?_
  rintro e wC ⟨v2, rfl, ho2, hBC⟩
  obtain ⟨A2, c2, rfl⟩ := own_formN ho2
  go_wp2_with fail
  have hSn := keepH hS hBC
  refine hK.out _ _ hSn (fun _ => ?_)
  clear hK K hS
  try simp only [Act.put, List.setIfInBounds_toArray, List.set_cons_zero, List.set_cons_succ]
  have hS := hSn
  clear hSn
  have hB := hB.trans (hBC.mono hB.size)
  replace hN := NdR.below _ hN hBC
  replace hF := RfN.below _ hF hBC
  replace ho1 := ho1.below hBC
  refine wpAnyH_ready (rs := [4]) (by kernel_rfl) (by simp) ?_
  refine AllReadyH.cons (o := { dst := some 18, op := Go.Op.call { callee := Go.Callee.value (Go.Operand.func 10), args := #[Go.Operand.tmp 15, Go.Operand.tmp 17], argTypes := #[34, 34] }, type := 4, pos := "law.go:112", after := #[{ on := 1, ground := Go.Ground.data }, { on := 3, ground := Go.Ground.data }, { on := 3, ground := Go.Ground.chain }], guard := none }) rfl (fun K hK => ?_) AllReadyH.nil
  go_simp
  refine (kEq _ _ _ _ _ ho1 ho2).mono ?_
  rintro e wD ⟨rfl, nF, rfl⟩
  have hBD := below_drewK wC nF
  go_wp2_with fail
  have hSn := keepH hS hBD
  refine hK.out _ _ hSn (fun _ => ?_)
  clear hK K hS
  try simp only [Act.put, List.setIfInBounds_toArray, List.set_cons_zero, List.set_cons_succ]
  have hS := hSn
  clear hSn
  have hB := hB.trans (hBD.mono hB.size)
  replace hN := NdR.below _ hN hBD
  replace hF := RfN.below _ hF hBD
  clear ho1 ho2
  refine wpAnyH_take (i := 5) (oi := { dst := some 19, op := Go.Op.move (Go.Operand.tmp 18), type := 4, pos := "law.go:112", after := #[{ on := 4, ground := Go.Ground.data }, { on := 4, ground := Go.Ground.chain }], guard := none }) (v := .bool true) rfl (by kernel_rfl) (by kernel_rfl) (by kernel_rfl) (fun _ _ _ h => h) (Or.inl ⟨by rfl, fun w hSw => ?_⟩) hS ?_
  · go_split_ands
    go_simp
  try simp only [Act.put, List.setIfInBounds_toArray, List.set_cons_zero, List.set_cons_succ]
  refine wpAnyH_take (i := 6) (oi := { dst := some 20, op := Go.Op.load 26 (Go.Operand.tmp 2), type := 26, pos := "law.go:112", after := #[{ on := 5, ground := Go.Ground.guard }], guard := some (5, true) }) (v := .agg #[.int .u64 k0, .int .u64 k1, .int .u64 m]) rfl (by kernel_rfl) (by kernel_rfl) (by kernel_rfl) (fun _ _ _ h => h) (Or.inl ⟨by rfl, fun w hSw => ?_⟩) hS ?_
  · go_split_ands
    go_simp
  try simp only [Act.put, List.setIfInBounds_toArray, List.set_cons_zero, List.set_cons_succ]
  refine wpAnyH_take (i := 7) (oi := { dst := some 21, op := Go.Op.move (Go.Operand.tmp 5), type := 29, pos := "law.go:112", after := #[{ on := 5, ground := Go.Ground.guard }], guard := some (5, true) }) (v := .pointer (some ⟨b, 0, none⟩)) rfl (by kernel_rfl) (by kernel_rfl) (by kernel_rfl) (fun _ _ _ h => h) (Or.inl ⟨by rfl, fun w hSw => ?_⟩) hS ?_
  · go_split_ands
    go_simp
  try simp only [Act.put, List.setIfInBounds_toArray, List.set_cons_zero, List.set_cons_succ]
  refine wpAnyH_take (i := 9) (oi := { dst := some 23, op := Go.Op.load 26 (Go.Operand.tmp 2), type := 26, pos := "law.go:112", after := #[{ on := 5, ground := Go.Ground.guard }], guard := some (5, true) }) (v := .agg #[.int .u64 k0, .int .u64 k1, .int .u64 m]) rfl (by kernel_rfl) (by kernel_rfl) (by kernel_rfl) (fun _ _ _ h => h) (Or.inl ⟨by rfl, fun w hSw => ?_⟩) hS ?_
  · go_split_ands
    go_simp
  try simp only [Act.put, List.setIfInBounds_toArray, List.set_cons_zero, List.set_cons_succ]
  refine wpAnyH_take (i := 11) (oi := { dst := some 25, op := Go.Op.move (Go.Operand.tmp 6), type := 37, pos := "law.go:112", after := #[{ on := 5, ground := Go.Ground.guard }], guard := some (5, true) }) (v := .pointer (some ⟨T, 0, none⟩)) rfl (by kernel_rfl) (by kernel_rfl) (by kernel_rfl) (fun _ _ _ h => h) (Or.inl ⟨by rfl, fun w hSw => ?_⟩) hS ?_
  · go_split_ands
    go_simp
  try simp only [Act.put, List.setIfInBounds_toArray, List.set_cons_zero, List.set_cons_succ]
  refine wpAnyH_ready (rs := [8]) (by kernel_rfl) (by simp) ?_
  refine AllReadyH.cons (o := { dst := some 22, op := Go.Op.call { callee := Go.Callee.value (Go.Operand.func 15), args := #[Go.Operand.tmp 20, Go.Operand.tmp 21], argTypes := #[26, 29] }, type := 4, pos := "law.go:112", after := #[{ on := 6, ground := Go.Ground.data }, { on := 7, ground := Go.Ground.data }, { on := 5, ground := Go.Ground.chain }, { on := 5, ground := Go.Ground.guard }], guard := some (5, true) }) rfl (fun K hK => ?_) AllReadyH.nil
  go_simp
  refine (kCan _ hN).mono ?_
  rintro e wE ⟨rfl, hBE⟩
  go_wp2_with fail
  have hSn := keepH hS hBE
  refine hK.out _ _ hSn (fun _ => ?_)
  clear hK K hS
  try simp only [Act.put, List.setIfInBounds_toArray, List.set_cons_zero, List.set_cons_succ]
  have hS := hSn
  clear hSn
  have hB := hB.trans (hBE.mono hB.size)
  replace hN := NdR.below _ hN hBE
  replace hF := RfN.below _ hF hBE
  refine wpAnyH_ready (rs := [10]) (by kernel_rfl) (by simp) ?_
  refine AllReadyH.cons (o := { dst := some 24, op := Go.Op.call { callee := Go.Callee.value (Go.Operand.func 14), args := #[Go.Operand.tmp 23], argTypes := #[26] }, type := 40, pos := "law.go:112", after := #[{ on := 9, ground := Go.Ground.data }, { on := 8, ground := Go.Ground.chain }, { on := 5, ground := Go.Ground.guard }], guard := some (5, true) }) rfl (fun K hK => ?_) AllReadyH.nil
  go_simp
  refine (own_any k0 k1 m _).mono ?_
  rintro e wF ⟨rfl, hBF⟩
  go_wp2_with fail
  have hSn := keepH hS hBF
  refine hK.out _ _ hSn (fun _ => ?_)
  clear hK K hS
  try simp only [Act.put, List.setIfInBounds_toArray, List.set_cons_zero, List.set_cons_succ]
  have hS := hSn
  clear hSn
  have hB := hB.trans (hBF.mono hB.size)
  replace hN := NdR.below _ hN hBF
  replace hF := RfN.below _ hF hBF
  refine wpAnyH_ready (rs := [12]) (by kernel_rfl) (by simp) ?_
  refine AllReadyH.cons (o := { dst := some 26, op := Go.Op.call { callee := Go.Callee.value (Go.Operand.func 19), args := #[Go.Operand.tmp 24, Go.Operand.tmp 25], argTypes := #[40, 37] }, type := 4, pos := "law.go:112", after := #[{ on := 10, ground := Go.Ground.data }, { on := 11, ground := Go.Ground.data }, { on := 10, ground := Go.Ground.chain }, { on := 5, ground := Go.Ground.guard }], guard := some (5, true) }) rfl (fun K hK => ?_) AllReadyH.nil
  go_simp
  refine (kRef _ hF).mono ?_
  rintro e wG ⟨rfl, hBG⟩
  go_wp2_with fail
  have hSn := keepH hS hBG
  refine hK.out _ _ hSn (fun _ => ?_)
  clear hK K hS
  try simp only [Act.put, List.setIfInBounds_toArray, List.set_cons_zero, List.set_cons_succ]
  have hS := hSn
  clear hSn
  have hB := hB.trans (hBG.mono hB.size)
  refine wpAnyH_take (i := 13) (oi := { dst := some 27, op := Go.Op.binOp Go.BinOp.eql 4 (Go.Operand.tmp 22) (Go.Operand.tmp 26) 4, type := 4, pos := "law.go:112", after := #[{ on := 8, ground := Go.Ground.data }, { on := 12, ground := Go.Ground.data }, { on := 5, ground := Go.Ground.guard }], guard := some (5, true) }) (v := .bool true) rfl (by kernel_rfl) (by kernel_rfl) (by kernel_rfl) (fun _ _ _ h => h) (Or.inl ⟨by rfl, fun w hSw => ?_⟩) hS ?_
  · go_split_ands
    go_simp
  try simp only [Act.put, List.setIfInBounds_toArray, List.set_cons_zero, List.set_cons_succ]
  refine wpAnyH_take (i := 14) (oi := { dst := some 28, op := Go.Op.pick (Go.Operand.tmp 19) (Go.Operand.tmp 27) (Go.Operand.const (Go.Value.bool false)), type := 4, pos := "law.go:112", after := #[{ on := 5, ground := Go.Ground.data }, { on := 13, ground := Go.Ground.data }], guard := none }) (v := .bool true) rfl (by kernel_rfl) (by kernel_rfl) (by kernel_rfl) (fun _ _ _ h => h) (Or.inl ⟨by rfl, fun w hSw => ?_⟩) hS ?_
  · go_split_ands
    go_simp
  try simp only [Act.put, List.setIfInBounds_toArray, List.set_cons_zero, List.set_cons_succ]
  refine wpAnyH_take (i := 15) (oi := { dst := some 4, op := Go.Op.assign (Go.Operand.tmp 28), type := 4, pos := "law.go:112", after := #[{ on := 14, ground := Go.Ground.data }, { on := 12, ground := Go.Ground.chain }, { on := 0, ground := Go.Ground.phase }, { on := 1, ground := Go.Ground.phase }, { on := 2, ground := Go.Ground.phase }, { on := 3, ground := Go.Ground.phase }, { on := 4, ground := Go.Ground.phase }, { on := 5, ground := Go.Ground.phase }, { on := 6, ground := Go.Ground.phase }, { on := 7, ground := Go.Ground.phase }, { on := 8, ground := Go.Ground.phase }, { on := 9, ground := Go.Ground.phase }, { on := 10, ground := Go.Ground.phase }, { on := 11, ground := Go.Ground.phase }, { on := 12, ground := Go.Ground.phase }, { on := 13, ground := Go.Ground.phase }, { on := 14, ground := Go.Ground.phase }], guard := none }) (v := .bool true) rfl (by kernel_rfl) (by kernel_rfl) (by kernel_rfl) (fun _ _ _ h => h) (Or.inl ⟨by rfl, fun w hSw => ?_⟩) hS ?_
  · go_split_ands
    go_simp
  try simp only [Act.put, List.setIfInBounds_toArray, List.set_cons_zero, List.set_cons_succ]
  refine wpAnyH_done (by kernel_rfl) ?_ _
  go_wp2_with fail
  go_ret
  exact ⟨rfl, hB⟩

/-! ### THE ROW's STEP -/
set_option maxRecDepth 100000 in
theorem lifted (os : Os) (started : os.Started) (H : Type) (enc : TypeId × Value → H) :
    ReturnsInHanded {} Tryz.checked os 4 .any (Rows.shapeRawSpec.pre6 enc Tryz.prog Tryz.f4 Rows.shapeRawRow.domain false) (Rows.shapeRawSpec.post enc Tryz.prog Tryz.f4 false true false false) := by
  refine returnsInHanded_of_change (C := Tryz.checked) own started (by kernel_rfl) Tryz.func4
    (ChangeSpec.witness6 (enc := enc) (C := Tryz.checked) false ⟨#[], #[.agg #[.int .u64 0, .int .u64 0, .int .u64 0], .slice none 0 0], []⟩ 8 (by kernel_rfl) (by kernel_rfl) (by kernel_rfl) (by kernel_rfl)) ?_
  intro W base args ds gs before hval0 hW hcnd _
  have hval : ∀ (j : Nat) t v, Tryz.f4.params[j]? = some t → args[j]? = some v → Value.okWide Tryz.prog W .any base t v := hval0
  have hW' := hW
  obtain ⟨p, q, hA0, hV, rfl, hfz, hnd⟩ := hW
  have hA : DataW.TrodAll enc Tryz.prog W 0 (fun _ => true) true Tryz.f4.params.toList args.toList ds p := hA0
  rw [Tryz.params4] at hA hval
  obtain ⟨v0, vs0, d0, ds0, p0, q0, hargs, rfl, rfl, h0, r0⟩ := trodAll_cons hA
  obtain ⟨v1, vs1, d1, ds1, p1, q1, rfl, rfl, rfl, h1, r1⟩ := trodAll_cons r0
  obtain ⟨rfl, rfl, rfl⟩ := trodAll_nil r1
  obtain rfl : args = #[v0, v1] := by cases args; simp_all
  obtain ⟨rfl, rfl⟩ := trodVars_none hV
  have k0 := h0
  have lt0 : ∀ x ∈ p0, x.block < W.heap.size := by obtain ⟨m, hm⟩ := k0; exact DataW.trod_lt m _ _ _ hm
  obtain ⟨x0, y0, m0, rfl, u0, t0, r0_⟩ := open_hasher (hval 0 26 v0 rfl rfl) h0
  obtain ⟨a1, len1, cap1, rfl⟩ := okWide_slice Tryz.underlying46 (hval 1 46 v1 rfl rfl)
  have k1 := h1
  have lt1 : ∀ x ∈ p1, x.block < W.heap.size := by obtain ⟨m, hm⟩ := k1; exact DataW.trod_lt m _ _ _ hm
  have w1 := open_raws h1
  clear hA0 hval0
  refine (walk x0 y0 m0 a1 len1 cap1 W u0 t0 w1).mono fun e W' ⟨he, bel⟩ => ?_
  subst he
  exact ⟨_, rfl, _, _, _, [], _, [], hW', trodAll_mk1 (shut_bool Tryz.underlying4 _), (trodAll_cons_mk (Below.trod laidOut (by kernel_rfl) (of_decide_eq_true (by kernel_rfl)) k0 bel lt0) (trodAll_cons_mk (Below.trod laidOut (by kernel_rfl) (of_decide_eq_true (by kernel_rfl)) k1 bel lt1) trodAll_mk0)), rfl, bel.frame _, fun h => by cases h⟩

theorem over : Rows.shapeRawRow.holds Tryz.pinned (OpenSpec.ofChange Rows.shapeRawSpec) :=
  OpenClaim.holds_of_wide 4 Tryz.f4 rfl rfl rfl rfl rfl rfl rfl ⟨rfl, rfl, rfl, rfl, rfl⟩ rfl rfl rfl rfl rfl (by kernel_rfl) Tryz.func4 (by kernel_rfl)
    (of_decide_eq_true (by kernel_rfl)) (by unfold Func.isWrapper; first | (rw [if_pos (by decide +kernel)]; kernel_rfl) | (rw [if_neg (by decide +kernel)]; exact ⟨rfl, rfl⟩))
    (fun os started H enc _ => lifted os started H enc)

theorem proved : Rows.ShapeRawSaid := over
#print axioms proved
end Go.Proofs.YtchimfgbdfmegaaGreat.shapeRaw
