/- ChampShrinks: for every hasher, every two lists of pairs and every order the law returns true: whatever comes, and goes again, in whatever order: the trie is as it was. Conditions: none beyond the given statement. -/
import Derived.Test.YtfmbikmpobieoaaGreatRows
import Derived.WalkKit
import Derived.ProofKit
import Derived.OpenShut
import Derived.ShutString
import Derived.ChangeOld
import Derived.Below
import Derived.BigQuiet
import Derived.Deep.RegionHeld3
import Derived.Carry
import Derived.Lib.SmallJoins
import Derived.Test.YtfmbikmpobieoaaGreatMJb
namespace Go.Proofs.YtfmbikmpobieoaaGreat.champShrinks
open Go.ChangeShapes Go.WideShapes Go.ChangeAt Go.RowKit Go.Joins Go.Lib
open Go.ChangeMaps (open_string shut_string)
set_option linter.unusedVariables false
set_option linter.unusedSimpArgs false
set_option maxRecDepth 100000
attribute [local irreducible] cnt

theorem own : ownKnob Tryz.prog.godebug = none := by kernel_rfl
theorem laidOut : laidOutB Tryz.prog = true := by kernel_rfl

set_option maxHeartbeats 16000000 in
theorem walk (k0 k1 m : Int) (a1 : Option Addr) (len1 cap1 : Nat) (ps1 : List Pr) (a2 : Option Addr) (len2 cap2 : Nat) (ps2 : List Pr) (a3 : Option Addr) (len3 cap3 : Nat) (zs : List Int) (w : World) (h0 : U64 k0) (h1 : U64 k1) (hp1 : ArgP w a1 len1 cap1 ps1) (hp2 : ArgP w a2 len2 cap2 ps2) (hrow : IsRow .u8 w a3 len3 cap3 zs) :
    Calls Tryz.prog 8 #[.agg #[.int .u64 k0, .int .u64 k1, .int .u64 m], .slice a1 len1 cap1, .slice a2 len2 cap2, .slice a3 len3 cap3] w fun e w' => e = .returned (.bool true) ∧ Below w.heap.size w w' := by
  have hB0 := (Below.refl _ w).alloc (Nat.le_refl _) (.cells #[.int .u64 k0, .int .u64 k1, .int .u64 m] 26)
  have b1 := Blk.new w 26 #[.int .u64 k0, .int .u64 k1, .int .u64 m]
  have hl1 := hp1.len_le
  have HA1 := Lib.hid hp1
  have HF := Lib.hid (fun wr N4 bn X v10 hB hTn hOx hH hrX hlX hzX => shr12_any (fun e w' => e = .returned (.bool true) ∧ Below w.heap.size w w') k0 k1 m w wr h0 h1 a2 len2 cap2 ps2 hp2 a3 len3 cap3 zs hrow N4 bn X v10 hB hTn hOx hH hrX hlX hzX (fun w' h => ⟨rfl, h⟩))
  clear hp1 hp2 hrow
  go_enter Tryz.func8, Tryz.ntmps8
  go_upto_region 1 with (fail)
  generalize w.alloc (.cells #[.int .u64 k0, .int .u64 k1, .int .u64 m] 26) = W at *
  obtain ⟨N4, hN4⟩ : ∃ N4, N4 = w.heap.size := ⟨_, rfl⟩
  rw [← hN4] at b1 ⊢
  clear hN4
  go_wp2_with fail
  refine (awake_any _).mono ?_
  rintro e w1 ⟨rfl, hB1⟩
  have hH := b1.below hB1
  have hB := hB0.trans (hB1.mono hB0.size)
  clear b1 hB1 hB0
  go_wp2_with fail
  refine (empty_plain (base := w.heap.size) k0 k1 m hB.size).mono ?_
  rintro e w2 ⟨b, rfl, hT, hB2⟩
  have hH := hH.below hB2
  have hB := hB.trans (hB2.mono hB.size)
  clear hB2
  go_wp2_with fail
  go_loopw [9, 10, 28] (fun v9 v10 vi wr => ∃ (j bn : Nat) (X : List Pr), j ≤ len1 ∧ vi = .int .i64 j ∧ v9 = .pointer (some ⟨bn, 0, none⟩) ∧ RisesL X ∧ X.length ≤ j ∧ X.length ≤ 25 ∧ (∀ x ∈ X, x.1.size ≤ 40) ∧ TP k0 k1 m w.heap.size wr bn X ∧ OwnR w.heap.size wr v10 X ∧ Blk wr N4 26 #[.int .u64 k0, .int .u64 k1, .int .u64 m] ∧ Below w.heap.size w wr) (fun v9 v10 vi wr => len1 - (intOf vi).toNat)
  case atStart => exact ⟨0, b, [], by omega, rfl, rfl, rises_nil, by simp, by simp, by simp, hT, OwnR.nil _ _, hH, hB⟩
  case round =>
    clear hT hH hB
    obtain ⟨j, bq, X, hj, rfl, rfl, hrX, hlj, hlX, hzX, hTn, hOx, hH, hB⟩ := hrel
    by_cases hlt : j < len1
    · obtain ⟨x, q, rfl, c0, c1⟩ := HA1.out.at hB j hlt
      have L1 : (j : Int) < (len1 : Int) := by omega
      have L2 : IntKind.i64.wrap ((j : Int) + 1) = ((j + 1 : Nat) : Int) := by rw [IntWalk.i64_in _ (by omega)]; omega
      go_upto_region 8 with (fail)
      have hBl := (Below.refl _ wr).alloc (Nat.le_refl _) (.cells #[.string q.1, .string q.2] 34)
      have hP := Blk.new wr 34 #[.string q.1, .string q.2]
      have hB := hB.trans (hBl.mono hB.size)
      have hTn := hTn.below hBl
      have hOx := hOx.below' hBl
      have hH := hH.below hBl

      clear hBl c0 c1
      generalize wr.alloc (.cells #[.string q.1, .string q.2] 34) = w3 at *
      generalize wr.heap.size = NP at *
      by_cases h25 : j < 25
      · have G : (j : Int) < 25 := by omega
        have hp1 : (few40 q).1.size ≤ 40 := cut40_size q.1
        have kfew := fun w' => few_any q w'
        generalize few40 q = p at *
        have hp1000 : p.1.size ≤ 1000 := by omega
        have kp := fun w' (hw : w.heap.size ≤ w'.heap.size) (hT : TP k0 k1 m w.heap.size w' bq X) => put_plain p h0 h1 hp1000 hw hT hrX (by omega) (fun x hx => Nat.le_trans (hzX x hx) (by omega))
        go_upto_region 9 with (fail)
        have hS0 : (fun w' : World => w'.cell? ⟨N4, 0, none⟩ = some (.int .u64 k0) ∧ w'.cell? ⟨N4, 1, none⟩ = some (.int .u64 k1) ∧ w'.cell? ⟨N4, 2, none⟩ = some (.int .u64 m) ∧ w'.cell? ⟨NP, 0, none⟩ = some (.string q.1) ∧ w'.cell? ⟨NP, 1, none⟩ = some (.string q.2)) w3.drew := ⟨hH.cell 0, hH.cell 1, hH.cell 2, hP.cell 0, hP.cell 1⟩
        have hdr : Below w3.heap.size w3 w3.drew := (Below.refl _ w3).drew
        have hB := hB.trans (hdr.mono hB.size)
        have hTn := hTn.below hdr
        have hOx := hOx.below' hdr
        have hH := hH.below hdr

        have hP := hP.below hdr
        clear hdr
        refine wp_region_held_drew (S := fun w' : World => w'.cell? ⟨N4, 0, none⟩ = some (.int .u64 k0) ∧ w'.cell? ⟨N4, 1, none⟩ = some (.int .u64 k1) ∧ w'.cell? ⟨N4, 2, none⟩ = some (.int .u64 m) ∧ w'.cell? ⟨NP, 0, none⟩ = some (.string q.1) ∧ w'.cell? ⟨NP, 1, none⟩ = some (.string q.2)) (by kernel_rfl) hS0 ?_
        intro hS
        refine wpAnyH_take (i := 0) (oi := { dst := some 36, op := Go.Op.load 26 (Go.Operand.tmp 4), type := 26, pos := "law.go:261", after := #[], guard := none }) (v := .agg #[.int .u64 k0, .int .u64 k1, .int .u64 m]) rfl (by kernel_rfl) (by kernel_rfl) (by kernel_rfl) (fun _ _ _ h => h) (Or.inl ⟨by rfl, fun w hSw => ?_⟩) hS ?_
        · go_split_ands
          go_simp
        try simp only [Act.put, List.setIfInBounds_toArray, List.set_cons_zero, List.set_cons_succ]
        refine wpAnyH_take (i := 1) (oi := { dst := some 37, op := Go.Op.move (Go.Operand.tmp 9), type := 30, pos := "law.go:261", after := #[], guard := none }) (v := .pointer (some ⟨bq, 0, none⟩)) rfl (by kernel_rfl) (by kernel_rfl) (by kernel_rfl) (fun _ _ _ h => h) (Or.inl ⟨by rfl, fun w hSw => ?_⟩) hS ?_
        · go_split_ands
          go_simp
        try simp only [Act.put, List.setIfInBounds_toArray, List.set_cons_zero, List.set_cons_succ]
        refine wpAnyH_take (i := 2) (oi := { dst := some 38, op := Go.Op.load 34 (Go.Operand.tmp 12), type := 34, pos := "law.go:261", after := #[], guard := none }) (v := .agg #[.string q.1, .string q.2]) rfl (by kernel_rfl) (by kernel_rfl) (by kernel_rfl) (fun _ _ _ h => h) (Or.inl ⟨by rfl, fun w hSw => ?_⟩) hS ?_
        · go_split_ands
          go_simp
        try simp only [Act.put, List.setIfInBounds_toArray, List.set_cons_zero, List.set_cons_succ]
        refine wpAnyH_ready (rs := [3]) (by kernel_rfl) (by simp) ?_
        refine AllReadyH.cons (o := { dst := some 39, op := Go.Op.call { callee := Go.Callee.value (Go.Operand.func 11), args := #[Go.Operand.tmp 38], argTypes := #[34] }, type := 34, pos := "law.go:261", after := #[{ on := 2, ground := Go.Ground.data }], guard := none }) rfl (fun K hK => ?_) AllReadyH.nil
        go_simp
        refine (kfew _).mono ?_
        rintro e wA ⟨rfl, hBA⟩
        go_wp2_with fail
        have hSn := keep5 hS hBA
        refine hK.out _ _ hSn (fun _ => ?_)
        clear hK K hS
        try simp only [Act.put, List.setIfInBounds_toArray, List.set_cons_zero, List.set_cons_succ]
        have hS := hSn
        clear hSn
        have hB := hB.trans (hBA.mono hB.size)
        have hTn := hTn.below hBA
        have hOx := hOx.below' hBA
        have hH := hH.below hBA
        have hP := hP.below hBA
        clear hBA
        refine wpAnyH_ready (rs := [4]) (by kernel_rfl) (by simp) ?_
        refine AllReadyH.cons (o := { dst := some 40, op := Go.Op.call { callee := Go.Callee.value (Go.Operand.func 15), args := #[Go.Operand.tmp 36, Go.Operand.const (Go.Value.pointer none), Go.Operand.tmp 37, Go.Operand.tmp 39], argTypes := #[26, 56, 30, 34] }, type := 40, pos := "law.go:261", after := #[{ on := 0, ground := Go.Ground.data }, { on := 1, ground := Go.Ground.data }, { on := 3, ground := Go.Ground.data }, { on := 3, ground := Go.Ground.chain }], guard := none }) rfl (fun K hK => ?_) AllReadyH.nil
        go_simp
        refine (kp _ hB.size hTn).mono ?_
        rintro e wC ⟨b1, rfl, hT1, hBC, -⟩
        go_wp2_with fail
        have hSn := keep5 hS hBC
        refine hK.out _ _ hSn (fun _ => ?_)
        clear hK K hS
        try simp only [Act.put, List.setIfInBounds_toArray, List.set_cons_zero, List.set_cons_succ]
        have hS := hSn
        clear hSn
        have hB := hB.trans (hBC.mono hB.size)
        have hTn := hTn.below hBC
        have hOx := hOx.below' hBC
        have hH := hH.below hBC
        have hP := hP.below hBC
        clear hBC
        refine wpAnyH_take (i := 5) (oi := { dst := some 35, op := Go.Op.move (Go.Operand.tmp 40), type := 40, pos := "law.go:261", after := #[{ on := 4, ground := Go.Ground.data }], guard := none }) (v := .tuple #[.pointer (some ⟨b1, 0, none⟩), .bool (getK X p.1).isNone]) rfl (by kernel_rfl) (by kernel_rfl) (by kernel_rfl) (fun _ _ _ h => h) (Or.inl ⟨by rfl, fun w hSw => ?_⟩) hS ?_
        · go_split_ands
          go_simp
        try simp only [Act.put, List.setIfInBounds_toArray, List.set_cons_zero, List.set_cons_succ]
        refine wpAnyH_take (i := 6) (oi := { dst := some 41, op := Go.Op.extract (Go.Operand.tmp 35) 0, type := 30, pos := "law.go:261", after := #[{ on := 5, ground := Go.Ground.data }], guard := none }) (v := .pointer (some ⟨b1, 0, none⟩)) rfl (by kernel_rfl) (by kernel_rfl) (by kernel_rfl) (fun _ _ _ h => h) (Or.inl ⟨by rfl, fun w hSw => ?_⟩) hS ?_
        · go_split_ands
          go_simp
        try simp only [Act.put, List.setIfInBounds_toArray, List.set_cons_zero, List.set_cons_succ]
        refine wpAnyH_take (i := 7) (oi := { dst := some 42, op := Go.Op.extract (Go.Operand.tmp 35) 1, type := 4, pos := "law.go:261", after := #[{ on := 5, ground := Go.Ground.data }, { on := 8, ground := Go.Ground.gcOnly Go.Departure.lateStores }], guard := none }) (v := .bool (getK X p.1).isNone) rfl (by kernel_rfl) (by kernel_rfl) (by kernel_rfl) (fun _ _ _ h => h) (Or.inl ⟨by rfl, fun w hSw => ?_⟩) hS ?_
        · go_split_ands
          go_simp
        try simp only [Act.put, List.setIfInBounds_toArray, List.set_cons_zero, List.set_cons_succ]
        refine wpAnyH_take (i := 8) (oi := { dst := some 9, op := Go.Op.assign (Go.Operand.tmp 41), type := 30, pos := "law.go:261", after := #[{ on := 6, ground := Go.Ground.data }, { on := 4, ground := Go.Ground.chain }, { on := 0, ground := Go.Ground.phase }, { on := 1, ground := Go.Ground.phase }, { on := 2, ground := Go.Ground.phase }, { on := 3, ground := Go.Ground.phase }, { on := 4, ground := Go.Ground.phase }, { on := 5, ground := Go.Ground.phase }, { on := 6, ground := Go.Ground.phase }, { on := 7, ground := Go.Ground.textOnly Go.Departure.lateStores }], guard := none }) (v := .pointer (some ⟨b1, 0, none⟩)) rfl (by kernel_rfl) (by kernel_rfl) (by kernel_rfl) (fun _ _ _ h => h) (Or.inl ⟨by rfl, fun w hSw => ?_⟩) hS ?_
        · go_split_ands
          go_simp
        try simp only [Act.put, List.setIfInBounds_toArray, List.set_cons_zero, List.set_cons_succ]
        refine wpAnyH_done (by kernel_rfl) ?_ _

        clear hS kp hTn
        have p0 : wC.cell? ⟨NP, 0, none⟩ = some (.string q.1) := hP.cell 0
        have p1 : wC.cell? ⟨NP, 1, none⟩ = some (.string q.2) := hP.cell 1
        generalize (getK X p.1).isNone = gb at *
        go_wp2_with fail
        refine (kfew wC).mono ?_
        rintro e w6 ⟨rfl, hB6⟩
        have hTn := hT1
        have hB := hB.trans (hB6.mono hB.size)
        have hTn := hTn.below hB6
        have hOx := hOx.below' hB6
        have hH := hH.below hB6

        obtain ⟨A', c', e', hR⟩ := hOx.rd
        subst e'
        have kr := refPut_any A' c' X p w6 hR (by omega) (sized_mem fun x hx => Nat.le_trans (hzX x hx) (by unfold maxLen; omega)) (by unfold maxLen; omega)
        unfold Pr.v at kr
        clear p0 p1 hB6 hT1 hP hR kfew hOx
        go_wp2_with fail
        refine kr.mono ?_
        rintro e w7 ⟨v7, rfl, hO7, hB7⟩
        have hbz := hB.size
        have hB := hB.trans (hB7.mono hB.size)
        have hTn := hTn.below hB7
        have hH := hH.below hB7
        have hO7 := OwnR.base hO7 hbz
        clear kr hB7
        go_wp2_with fail
        refine ⟨⟨j + 1, b1, putK X p, by omega, by go_num, rfl, put_rises _ hrX, ?_, ?_, ?_, hTn, hO7, hH, hB⟩, by simp [intOf]; omega⟩
        · have := put_len (ps := X) p
          omega
        · have := put_len (ps := X) p
          omega
        · intro z hz
          rcases put_sets.1 hz with rfl | ⟨h, _⟩
          · exact hp1
          · exact hzX z h
      · have G : ¬ ((j : Int) < 25) := by omega
        clear hP
        go_wp2_with fail
        exact ⟨⟨j + 1, bq, X, by omega, by go_num, rfl, hrX, by omega, hlX, hzX, hTn, hOx, hH, hB⟩, by simp [intOf]; omega⟩
    · obtain rfl : j = len1 := by omega
      have G : ¬ ((j : Int) < (j : Int)) := by omega
      have HFF := Lib.hid (HF.out wr N4 bq X u10 hB hTn hOx hH hrX hlX hzX)
      clear HF hTn hOx hH HA1
      repeat (first | exact HFF.out _ _ _ _ _ _ _ _ _ _ _ _ _ _ _ _ _ _ _ _ _ _ _ _ _ _ _ _ _ _ _ _ _ _ _ _ _ _ _ _ _ _ _ _ _ _ _ _ _ _ _ _ _ _ _ _ _ _ _ _ _ _ _ _ _ _ _ _ _ _ _ _ _ _ _ _ _ _ _ _ _ _ _ _ _ _ _ _ _ _ _ _ _ _ _ _ _ _ _ _ _ _ _ _ _ _ _ _ _ _ _ _ _ _ _ _ _ _ _ _ _ _ _ _ _ _ _ _ _ _ _ _ _ _ _ _ _ _ _ _ | go_step)

/-! ### THE ROW's STEP -/
set_option maxRecDepth 100000 in
theorem lifted (os : Os) (started : os.Started) (H : Type) (enc : TypeId × Value → H) :
    ReturnsInHanded {} Tryz.checked os 8 .any (Rows.champShrinksSpec.pre6 enc Tryz.prog Tryz.f8 Rows.champShrinksRow.domain false) (Rows.champShrinksSpec.post enc Tryz.prog Tryz.f8 false true false false) := by
  refine returnsInHanded_of_change (C := Tryz.checked) own started (by kernel_rfl) Tryz.func8
    (ChangeSpec.witness6 (enc := enc) (C := Tryz.checked) false ⟨#[], #[.agg #[.int .u64 0, .int .u64 0, .int .u64 0], .slice none 0 0, .slice none 0 0, .slice none 0 0], []⟩ 8 (by kernel_rfl) (by kernel_rfl) (by kernel_rfl) (by kernel_rfl)) ?_
  intro W base args ds gs before hval0 hW hcnd _
  have hval : ∀ (j : Nat) t v, Tryz.f8.params[j]? = some t → args[j]? = some v → Value.okWide Tryz.prog W .any base t v := hval0
  have hW' := hW
  obtain ⟨p, q, hA0, hV, rfl, hfz, hnd⟩ := hW
  have hA : DataW.TrodAll enc Tryz.prog W 0 (fun _ => true) true Tryz.f8.params.toList args.toList ds p := hA0
  rw [Tryz.params8] at hA hval
  obtain ⟨v0, vs0, d0, ds0, p0, q0, hargs, rfl, rfl, h0, r0⟩ := trodAll_cons hA
  obtain ⟨v1, vs1, d1, ds1, p1, q1, rfl, rfl, rfl, h1, r1⟩ := trodAll_cons r0
  obtain ⟨v2, vs2, d2, ds2, p2, q2, rfl, rfl, rfl, h2, r2⟩ := trodAll_cons r1
  obtain ⟨v3, vs3, d3, ds3, p3, q3, rfl, rfl, rfl, h3, r3⟩ := trodAll_cons r2
  obtain ⟨rfl, rfl, rfl⟩ := trodAll_nil r3
  obtain rfl : args = #[v0, v1, v2, v3] := by cases args; simp_all
  obtain ⟨rfl, rfl⟩ := trodVars_none hV
  have k0 := h0
  have lt0 : ∀ x ∈ p0, x.block < W.heap.size := by obtain ⟨m, hm⟩ := k0; exact DataW.trod_lt m _ _ _ hm
  obtain ⟨x0, y0, m0, rfl, u0, t0, r0_⟩ := open_hasher (hval 0 26 v0 rfl rfl) h0
  obtain ⟨a1, len1, cap1, rfl⟩ := okWide_slice Tryz.underlying63 (hval 1 63 v1 rfl rfl)
  have k1 := h1
  have lt1 : ∀ x ∈ p1, x.block < W.heap.size := by obtain ⟨m, hm⟩ := k1; exact DataW.trod_lt m _ _ _ hm
  obtain ⟨z1, w1⟩ := open_pairs h1
  obtain ⟨a2, len2, cap2, rfl⟩ := okWide_slice Tryz.underlying63 (hval 2 63 v2 rfl rfl)
  have k2 := h2
  have lt2 : ∀ x ∈ p2, x.block < W.heap.size := by obtain ⟨m, hm⟩ := k2; exact DataW.trod_lt m _ _ _ hm
  obtain ⟨z2, w2⟩ := open_pairs h2
  obtain ⟨a3, len3, cap3, rfl⟩ := okWide_slice Tryz.underlying64 (hval 3 64 v3 rfl rfl)
  have k3 := h3
  have lt3 : ∀ x ∈ p3, x.block < W.heap.size := by obtain ⟨m, hm⟩ := k3; exact DataW.trod_lt m _ _ _ hm
  obtain ⟨z3, w3⟩ : ∃ zs, IsRow .u8 W a3 len3 cap3 zs := by
    obtain ⟨fuel, hf⟩ := h3
    rcases open_ints Tryz.underlying64 Tryz.underlying5 (by kernel_rfl) hf with ⟨hcs, _⟩ | ⟨x, l, c, zs, hcs, _, hl, hm, hz, _, hcell, hwz⟩
    · simp [Value.cells] at hcs
      obtain ⟨rfl, rfl, rfl⟩ := hcs
      exact ⟨[], .inl ⟨rfl, rfl, rfl, rfl⟩⟩
    · simp [Value.cells] at hcs
      obtain ⟨rfl, rfl, rfl⟩ := hcs
      exact ⟨zs, .inr ⟨_, rfl, hl, hm, by simpa using hz, hcell, hwz⟩⟩
  clear hA0 hval0
  refine (walk x0 y0 m0 a1 len1 cap1 z1 a2 len2 cap2 z2 a3 len3 cap3 z3 W u0 t0 w1 w2 w3).mono fun e W' ⟨he, bel⟩ => ?_
  subst he
  exact ⟨_, rfl, _, _, _, [], _, [], hW', trodAll_mk1 (shut_bool Tryz.underlying4 _), (trodAll_cons_mk (Below.trod laidOut (by kernel_rfl) (of_decide_eq_true (by kernel_rfl)) k0 bel lt0) (trodAll_cons_mk (Below.trod laidOut (by kernel_rfl) (of_decide_eq_true (by kernel_rfl)) k1 bel lt1) (trodAll_cons_mk (Below.trod laidOut (by kernel_rfl) (of_decide_eq_true (by kernel_rfl)) k2 bel lt2) (trodAll_cons_mk (Below.trod laidOut (by kernel_rfl) (of_decide_eq_true (by kernel_rfl)) k3 bel lt3) trodAll_mk0)))), rfl, bel.frame _, fun h => by cases h⟩

theorem over : Rows.champShrinksRow.holds Tryz.pinned (OpenSpec.ofChange Rows.champShrinksSpec) :=
  OpenClaim.holds_of_wide 8 Tryz.f8 rfl rfl rfl rfl rfl rfl rfl ⟨rfl, rfl, rfl, rfl, rfl⟩ rfl rfl rfl rfl rfl (by kernel_rfl) Tryz.func8 (by kernel_rfl)
    (of_decide_eq_true (by kernel_rfl)) (by unfold Func.isWrapper; first | (rw [if_pos (by decide +kernel)]; kernel_rfl) | (rw [if_neg (by decide +kernel)]; exact ⟨rfl, rfl⟩))
    (fun os started H enc _ => lifted os started H enc)

theorem proved : Rows.ChampShrinksSaid := over
#print axioms proved
end Go.Proofs.YtfmbikmpobieoaaGreat.champShrinks
