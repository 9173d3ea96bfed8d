/- RadixShrinks: for every two lists of pairs and every order the law returns true: whatever comes, and goes again, in whatever order: the tree is, to the last node, as it was. Conditions: none beyond the given statement. -/
import Derived.Test.YtchimfgbdfmegabRows
import Derived.WalkKit
import Derived.ProofKit
import Derived.OpenShut
import Derived.ShutString
import Derived.ChangeOld
import Derived.Below
import Derived.BigQuiet
import Derived.Deep.RegionHeld3
import Derived.Carry
import Derived.Lib.SmallJoins
import Derived.Test.YtchimfgbdfmegabHbb
import Derived.Test.YtchimfgbdfmegabHba
namespace Go.Proofs.Ytchimfgbdfmegab.radixShrinks
open Go.ChangeShapes Go.WideShapes Go.ChangeAt Go.RowKit Go.Joins Go.Lib
open Go.ChangeMaps (open_string shut_string)
set_option linter.unusedVariables false
set_option linter.unusedSimpArgs false
set_option linter.unnecessarySimpa false
set_option maxRecDepth 100000

theorem own : ownKnob Try.prog.godebug = none := by kernel_rfl
theorem laidOut : laidOutB Try.prog = true := by kernel_rfl

set_option maxHeartbeats 16000000 in
theorem walk (a1 : Option Addr) (len1 cap1 : Nat) (ps1 : List Pr) (a2 : Option Addr) (len2 cap2 : Nat) (ps2 : List Pr) (a3 : Option Addr) (len3 cap3 : Nat) (zs : List Int) (w : World) (hp1 : ArgP w a1 len1 cap1 ps1) (hp2 : ArgP w a2 len2 cap2 ps2) (hrow : IsRow .u8 w a3 len3 cap3 zs) :
    Calls Try.prog 4 #[.slice a1 len1 cap1, .slice a2 len2 cap2, .slice a3 len3 cap3] w fun e w' => e = .returned (.bool true) ∧ Below w.heap.size w w' := by
  have hl1 := hp1.len_leR
  have HA1 := Lib.hid hp1
  have HF := Lib.hid (fun wr bn X A8 c8 hS hlX => shr12_any (fun e w' => e = .returned (.bool true) ∧ Below w.heap.size w w') w wr a2 len2 cap2 ps2 hp2 a3 len3 cap3 zs hrow bn X A8 c8 hS hlX (fun w' h => ⟨rfl, h⟩))
  clear hp1 hp2 hrow
  go_enter Try.func4, Try.ntmps4
  go_wp2_with fail
  refine (awakeR_any _).mono ?_
  rintro e w1 ⟨rfl, hB⟩
  go_wp2_with fail
  refine (empty_any w1).mono ?_
  rintro e w2 ⟨b, rfl, hT0, hB2⟩
  have hT := PW.empty hT0
  have hB := hB.trans (hB2.mono hB.size)
  clear hB2 hT0
  unfold at0
  go_wp2_with fail
  go_loopw [7, 8, 26] (fun v7 v8 vi wr => ∃ (j bn : Nat) (X : List Pr), j ≤ len1 ∧ vi = .int .i64 j ∧ v7 = .pointer (some ⟨bn, 0, none⟩) ∧ X.length ≤ j ∧ X.length ≤ 25 ∧ PW wr bn X ∧ OwnR w.heap.size wr v8 X ∧ Below w.heap.size w wr) (fun v7 v8 vi wr => len1 - (RowKit.intOf vi).toNat)
  case atStart => exact ⟨0, b, [], by omega, rfl, rfl, by simp, by simp, hT, OwnR.nil _ _, hB⟩
  case round =>
    clear hT hB
    obtain ⟨j, bq, X, hj, rfl, rfl, hlj, hlX, hTn, hOx, hB⟩ := hrel
    by_cases hlt : j < len1
    · obtain ⟨x, rfl, hpl, c0, c1⟩ := argp_at HA1.out hB j hlt
      have L1 : (j : Int) < (len1 : Int) := by omega
      have L2 : IntKind.i64.wrap ((j : Int) + 1) = ((j + 1 : Nat) : Int) := by rw [IntWalk.i64_in _ (by unfold maxLen at hl1; omega)]; omega
      generalize pat ps1 j = q at *
      go_upto_region 8 with (fail)
      have hBl := (Below.refl _ wr).alloc (Nat.le_refl _) (.cells #[.string q.1, .string q.2] 24)
      have hP := Blk.new wr 24 #[.string q.1, .string q.2]
      have hTn := hTn.below hBl
      have hOx := hOx.below' hBl
      have hB := hB.trans (hBl.mono hB.size)
      clear hBl c0 c1 hpl
      generalize wr.alloc (.cells #[.string q.1, .string q.2] 24) = w3 at *
      generalize wr.heap.size = NP at *
      by_cases h25 : j < 25
      · have G : (j : Int) < 25 := by omega
        have hp1 : (few40 q).1.size ≤ 40 := cut40_size q.1
        have hp2 : (few40 q).2.size ≤ 40 := cut40_size q.2
        have kfew : ∀ w', Calls Try.prog 8 #[.agg #[.string q.1, .string q.2]] w' fun e w'' => e = .returned (.agg #[.string (few40 q).1, .string (few40 q).2]) ∧ Below w'.heap.size w' w'' := fun w' => few_any q.1 q.2 w'
        generalize few40 q = p at *
        have p0 : w3.cell? ⟨NP, 0, none⟩ = some (.string q.1) := hP.cell 0
        have p1 : w3.cell? ⟨NP, 1, none⟩ = some (.string q.2) := hP.cell 1
        go_wp2_with fail
        refine (kfew _).mono ?_
        rintro e w4 ⟨rfl, hB4⟩
        have hTn := hTn.below hB4
        have hOx := hOx.below' hB4
        have hP := hP.below hB4
        have hB := hB.trans (hB4.mono hB.size)
        have kp := put_list hTn (.pointer none) p.1 p.2 (.inl rfl) hp1 hp2
        simp only [at0] at kp
        clear p0 p1 hB4
        go_wp2_with fail
        refine kp.mono ?_
        rintro e w5 ⟨b1, rfl, -, hT1, hB5⟩
        have hzX := hTn.keys
        have hOx := hOx.below' hB5
        have hP := hP.below hB5
        have hB := hB.trans (hB5.mono hB.size)
        clear kp hB5 hTn
        generalize (getR X p.1).isNone = gb at *
        have p0 : w5.cell? ⟨NP, 0, none⟩ = some (.string q.1) := hP.cell 0
        have p1 : w5.cell? ⟨NP, 1, none⟩ = some (.string q.2) := hP.cell 1
        go_wp2_with fail
        refine (kfew _).mono ?_
        rintro e w6 ⟨rfl, hB6⟩
        have hT1 := hT1.below hB6
        have hOx := hOx.below' hB6
        have hB := hB.trans (hB6.mono hB.size)
        obtain ⟨A', c', e', hR⟩ := hOx.rd
        subst e'
        have kr := refPut_any A' c' X p w6 hR (by omega) (sized_mem fun x hx => Nat.le_trans (hzX x hx) (by unfold maxLen; omega)) (by unfold maxLen; omega)
        unfold Pr.v at kr
        clear p0 p1 hB6 hP hR kfew hOx
        go_wp2_with fail
        refine kr.mono ?_
        rintro e w7 ⟨v7, rfl, hO7, hB7⟩
        have hbz := hB.size
        have hB := hB.trans (hB7.mono hB.size)
        have hT1 := hT1.below hB7
        have hO7 := OwnR.base hO7 hbz
        clear kr hB7
        go_wp2_with fail
        refine ⟨⟨j + 1, b1, putK X p, by omega, by go_num, rfl, ?_, ?_, hT1, hO7, hB⟩, by simp [RowKit.intOf]; omega⟩
        · have := put_lenR X p
          omega
        · have := put_lenR X p
          omega
      · have G : ¬ ((j : Int) < 25) := by omega
        clear hP
        go_wp2_with fail
        exact ⟨⟨j + 1, bq, X, by omega, by go_num, rfl, by omega, hlX, hTn, hOx, hB⟩, by simp [RowKit.intOf]; omega⟩
    · obtain rfl : j = len1 := by omega
      have G : ¬ ((j : Int) < (j : Int)) := by omega
      obtain ⟨A8, c8, e8, -⟩ := hOx.rd
      subst e8
      have HFF := Lib.hid (HF.out wr bq X A8 c8 ⟨hB, hTn, hOx⟩ hlX)
      clear HF hTn hOx hB HA1
      repeat (first | exact HFF.out _ _ _ _ _ _ _ _ _ _ _ _ _ _ _ _ _ _ _ _ _ _ _ _ _ _ _ _ _ _ _ _ _ _ _ _ _ _ _ _ _ _ _ _ _ _ _ _ _ _ _ _ _ _ _ _ _ _ _ _ _ _ _ _ _ _ _ _ _ _ _ _ _ _ _ _ _ _ _ _ _ _ _ _ _ _ _ _ _ _ _ _ _ _ _ _ _ _ _ _ _ _ _ _ _ _ _ _ _ _ _ _ _ _ _ _ _ _ _ _ _ _ _ _ _ _ _ _ _ _ _ _ _ _ | go_step)

/-! ### THE ROW's STEP -/
set_option maxRecDepth 100000 in
theorem lifted (os : Os) (started : os.Started) (H : Type) (enc : TypeId × Value → H) :
    ReturnsInHanded {} Try.checked os 4 .any (Rows.radixShrinksSpec.pre6 enc Try.prog Try.f4 Rows.radixShrinksRow.domain false) (Rows.radixShrinksSpec.post enc Try.prog Try.f4 false true false false) := by
  refine returnsInHanded_of_change (C := Try.checked) own started (by kernel_rfl) Try.func4
    (ChangeSpec.witness6 (enc := enc) (C := Try.checked) false ⟨#[], #[.slice none 0 0, .slice none 0 0, .slice none 0 0], []⟩ 8 (by kernel_rfl) (by kernel_rfl) (by kernel_rfl) (by kernel_rfl)) ?_
  intro W base args ds gs before hval0 hW hcnd _
  have hval : ∀ (j : Nat) t v, Try.f4.params[j]? = some t → args[j]? = some v → Value.okWide Try.prog W .any base t v := hval0
  have hW' := hW
  obtain ⟨p, q, hA0, hV, rfl, hfz, hnd⟩ := hW
  have hA : DataW.TrodAll enc Try.prog W 0 (fun _ => true) true Try.f4.params.toList args.toList ds p := hA0
  rw [Try.params4] at hA hval
  obtain ⟨v0, vs0, d0, ds0, p0, q0, hargs, rfl, rfl, h0, r0⟩ := trodAll_cons hA
  obtain ⟨v1, vs1, d1, ds1, p1, q1, rfl, rfl, rfl, h1, r1⟩ := trodAll_cons r0
  obtain ⟨v2, vs2, d2, ds2, p2, q2, rfl, rfl, rfl, h2, r2⟩ := trodAll_cons r1
  obtain ⟨rfl, rfl, rfl⟩ := trodAll_nil r2
  obtain rfl : args = #[v0, v1, v2] := by cases args; simp_all
  obtain ⟨rfl, rfl⟩ := trodVars_none hV
  obtain ⟨a0, len0, cap0, rfl⟩ := okWide_slice Try.underlying22 (hval 0 22 v0 rfl rfl)
  have k0 := h0
  have lt0 : ∀ x ∈ p0, x.block < W.heap.size := by obtain ⟨m, hm⟩ := k0; exact DataW.trod_lt m _ _ _ hm
  obtain ⟨z0, w0⟩ := open_pairs h0
  obtain ⟨a1, len1, cap1, rfl⟩ := okWide_slice Try.underlying22 (hval 1 22 v1 rfl rfl)
  have k1 := h1
  have lt1 : ∀ x ∈ p1, x.block < W.heap.size := by obtain ⟨m, hm⟩ := k1; exact DataW.trod_lt m _ _ _ hm
  obtain ⟨z1, w1⟩ := open_pairs h1
  obtain ⟨a2, len2, cap2, rfl⟩ := okWide_slice Try.underlying41 (hval 2 41 v2 rfl rfl)
  have k2 := h2
  have lt2 : ∀ x ∈ p2, x.block < W.heap.size := by obtain ⟨m, hm⟩ := k2; exact DataW.trod_lt m _ _ _ hm
  obtain ⟨z2, w2⟩ : ∃ zs, IsRow .u8 W a2 len2 cap2 zs := by
    obtain ⟨fuel, hf⟩ := h2
    rcases open_ints Try.underlying41 Try.underlying5 (by kernel_rfl) hf with ⟨hcs, _⟩ | ⟨x, l, c, zs, hcs, _, hl, hm, hz, _, hcell, hwz⟩
    · simp [Value.cells] at hcs
      obtain ⟨rfl, rfl, rfl⟩ := hcs
      exact ⟨[], .inl ⟨rfl, rfl, rfl, rfl⟩⟩
    · simp [Value.cells] at hcs
      obtain ⟨rfl, rfl, rfl⟩ := hcs
      exact ⟨zs, .inr ⟨_, rfl, hl, hm, by simpa using hz, hcell, hwz⟩⟩
  clear hA0 hval0
  refine (walk a0 len0 cap0 z0 a1 len1 cap1 z1 a2 len2 cap2 z2 W w0 w1 w2).mono fun e W' ⟨he, bel⟩ => ?_
  subst he
  exact ⟨_, rfl, _, _, _, [], _, [], hW', trodAll_mk1 (shut_bool Try.underlying4 _), (trodAll_cons_mk (Below.trod laidOut (by kernel_rfl) (of_decide_eq_true (by kernel_rfl)) k0 bel lt0) (trodAll_cons_mk (Below.trod laidOut (by kernel_rfl) (of_decide_eq_true (by kernel_rfl)) k1 bel lt1) (trodAll_cons_mk (Below.trod laidOut (by kernel_rfl) (of_decide_eq_true (by kernel_rfl)) k2 bel lt2) trodAll_mk0))), rfl, bel.frame _, fun h => by cases h⟩

theorem over : Rows.radixShrinksRow.holds Try.pinned (OpenSpec.ofChange Rows.radixShrinksSpec) :=
  OpenClaim.holds_of_wide 4 Try.f4 rfl rfl rfl rfl rfl rfl rfl ⟨rfl, rfl, rfl, rfl, rfl⟩ rfl rfl rfl rfl rfl (by kernel_rfl) Try.func4 (by kernel_rfl)
    (of_decide_eq_true (by kernel_rfl)) (by unfold Func.isWrapper; first | (rw [if_pos (by decide +kernel)]; kernel_rfl) | (rw [if_neg (by decide +kernel)]; exact ⟨rfl, rfl⟩))
    (fun os started H enc _ => lifted os started H enc)

theorem proved : Rows.RadixShrinksSaid := over
#print axioms proved
end Go.Proofs.Ytchimfgbdfmegab.radixShrinks
