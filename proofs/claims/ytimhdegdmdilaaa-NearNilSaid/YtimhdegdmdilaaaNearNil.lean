/- NearNil: for every string and every number the law returns true: the tree that is not there has no pair and no key. Conditions: none beyond the given statement. -/
import Derived.Test.YtimhdegdmdilaaaRows
import Derived.WalkKit
import Derived.ProofKit
import Derived.OpenShut
import Derived.ShutString
import Derived.ChangeOld
import Derived.Below
import Derived.BigQuiet
import Derived.Deep.RegionHeld3
import Derived.Carry
import Derived.Lib.SmallJoins
import Derived.Test.YtimhdegdmdilaaaHaw
import Derived.Test.YtimhdegdmdilaaaHap
namespace Go.Proofs.Ytimhdegdmdilaaa.nearNil
open Go.ChangeShapes Go.WideShapes Go.ChangeAt Go.RowKit Go.Joins Go.Lib
open Go.ChangeMaps (open_string shut_string)
set_option linter.unusedVariables false
set_option linter.unusedSimpArgs false
set_option linter.unnecessarySimpa false
set_option maxRecDepth 100000

theorem own : ownKnob Try.prog.godebug = none := by kernel_rfl
theorem laidOut : laidOutB Try.prog = true := by kernel_rfl

theorem below_n (key : ByteArray) (w : World) : Calls Try.prog 31 #[.pointer none, .string key] w fun e w' => e = .returned noneV ∧ Below w.heap.size w w' := below_nil key w
theorem above_n (key : ByteArray) (w : World) : Calls Try.prog 30 #[.pointer none, .string key] w fun e w' => e = .returned noneV ∧ Below w.heap.size w w' := above_nil key w
theorem longest_n (key : ByteArray) (w : World) : Calls Try.prog 22 #[.pointer none, .string key] w fun e w' => e = .returned noneV ∧ Below w.heap.size w w' := longest_nil key w
set_option maxHeartbeats 8000000 in
theorem walk (s : ByteArray) (i : Int) (w : World) {p q : Prop} (h1 : p) (h2 : q) :
    Calls Try.prog 6 #[.string s, .int .i64 i] w fun e w' => e = .returned (.bool true) ∧ Below w.heap.size w w' := by
  go_enter Try.func6, Try.ntmps6
  go_wp2_with fail
  refine (awake12_any _).mono ?_
  rintro e w1 ⟨rfl, hB⟩
  go_wp2_with fail
  have kf := few_any s ⟨#[]⟩ w1
  refine kf.mono ?_
  rintro e w2 ⟨rfl, hB2⟩
  have hB := hB.trans (hB2.mono hB.size)
  have hfl := fun w => field0 (cut40 s) (cut40 ⟨#[]⟩) w
  clear kf hB2
  generalize cut40 s = k at *
  generalize cut40 ⟨#[]⟩ = k2 at *
  go_wp2_with fail
  refine (min_nil _).mono ?_
  rintro e w4 ⟨rfl, hB1⟩
  have hBl := (Below.refl _ w4).alloc (Nat.le_refl _) (.cells #[.string ⟨#[]⟩, .string ⟨#[]⟩] 29)
  have hB := hB.trans ((hB1.trans (hBl.mono hB1.size)).mono hB.size)
  clear hB1 hBl
  go_upto_region 5 with (fail)
  generalize w4.alloc (.cells #[.string ⟨#[]⟩, .string ⟨#[]⟩] 29) = V4 at *
  generalize w4.heap.size = N4 at *
  go_wp2_with fail
  refine (max_nil _).mono ?_
  rintro e w5 ⟨rfl, hB1⟩
  have hBl := (Below.refl _ w5).alloc (Nat.le_refl _) (.cells #[.string ⟨#[]⟩, .string ⟨#[]⟩] 29)
  have hB := hB.trans ((hB1.trans (hBl.mono hB1.size)).mono hB.size)
  clear hB1 hBl
  go_upto_region 6 with (fail)
  generalize w5.alloc (.cells #[.string ⟨#[]⟩, .string ⟨#[]⟩] 29) = V5 at *
  generalize w5.heap.size = N5 at *
  go_wp2_with fail
  refine (floor_nil k _).mono ?_
  rintro e w6 ⟨rfl, hB1⟩
  have hBl := (Below.refl _ w6).alloc (Nat.le_refl _) (.cells #[.string ⟨#[]⟩, .string ⟨#[]⟩] 29)
  have hB := hB.trans ((hB1.trans (hBl.mono hB1.size)).mono hB.size)
  clear hB1 hBl
  go_upto_region 7 with (fail)
  generalize w6.alloc (.cells #[.string ⟨#[]⟩, .string ⟨#[]⟩] 29) = V6 at *
  generalize w6.heap.size = N6 at *
  go_wp2_with fail
  refine (ceil_nil k _).mono ?_
  rintro e w7 ⟨rfl, hB1⟩
  have hBl := (Below.refl _ w7).alloc (Nat.le_refl _) (.cells #[.string ⟨#[]⟩, .string ⟨#[]⟩] 29)
  have hB := hB.trans ((hB1.trans (hBl.mono hB1.size)).mono hB.size)
  clear hB1 hBl
  go_upto_region 8 with (fail)
  generalize w7.alloc (.cells #[.string ⟨#[]⟩, .string ⟨#[]⟩] 29) = V7 at *
  generalize w7.heap.size = N7 at *
  go_wp2_with fail
  refine (below_n k _).mono ?_
  rintro e w8 ⟨rfl, hB1⟩
  have hBl := (Below.refl _ w8).alloc (Nat.le_refl _) (.cells #[.string ⟨#[]⟩, .string ⟨#[]⟩] 29)
  have hB := hB.trans ((hB1.trans (hBl.mono hB1.size)).mono hB.size)
  clear hB1 hBl
  go_upto_region 9 with (fail)
  generalize w8.alloc (.cells #[.string ⟨#[]⟩, .string ⟨#[]⟩] 29) = V8 at *
  generalize w8.heap.size = N8 at *
  go_wp2_with fail
  refine (above_n k _).mono ?_
  rintro e w9 ⟨rfl, hB1⟩
  have hBl := (Below.refl _ w9).alloc (Nat.le_refl _) (.cells #[.string ⟨#[]⟩, .string ⟨#[]⟩] 29)
  have hB := hB.trans ((hB1.trans (hBl.mono hB1.size)).mono hB.size)
  clear hB1 hBl
  go_upto_region 10 with (fail)
  generalize w9.alloc (.cells #[.string ⟨#[]⟩, .string ⟨#[]⟩] 29) = V9 at *
  generalize w9.heap.size = N9 at *
  go_wp2_with fail
  refine (longest_n k _).mono ?_
  rintro e w10 ⟨rfl, hB1⟩
  have hBl := (Below.refl _ w10).alloc (Nat.le_refl _) (.cells #[.string ⟨#[]⟩, .string ⟨#[]⟩] 29)
  have hB := hB.trans ((hB1.trans (hBl.mono hB1.size)).mono hB.size)
  clear hB1 hBl
  go_upto_region 11 with (fail)
  generalize w10.alloc (.cells #[.string ⟨#[]⟩, .string ⟨#[]⟩] 29) = V10 at *
  generalize w10.heap.size = N10 at *
  go_wp2_with fail
  refine (nth_nil i _).mono ?_
  rintro e w11 ⟨rfl, hB1⟩
  have hBl := (Below.refl _ w11).alloc (Nat.le_refl _) (.cells #[.string ⟨#[]⟩, .string ⟨#[]⟩] 29)
  have hB := hB.trans ((hB1.trans (hBl.mono hB1.size)).mono hB.size)
  clear hB1 hBl
  go_upto_region 12 with (fail)
  generalize w11.alloc (.cells #[.string ⟨#[]⟩, .string ⟨#[]⟩] 29) = V11 at *
  generalize w11.heap.size = N11 at *
  go_wp2_with fail
  refine (rank_nil k _).mono ?_
  rintro e w12 ⟨rfl, hB1⟩
  have hB := hB.trans (hB1.mono hB.size)
  clear hB1
  go_wp2_with fail
  go_ret
  exact ⟨rfl, hB⟩

/-! ### THE ROW's STEP -/
set_option maxRecDepth 100000 in
theorem lifted (os : Os) (started : os.Started) (H : Type) (enc : TypeId × Value → H) :
    ReturnsInHanded {} Try.checked os 6 .any (Rows.nearNilSpec.pre6 enc Try.prog Try.f6 Rows.nearNilRow.domain false) (Rows.nearNilSpec.post enc Try.prog Try.f6 false true false false) := by
  refine returnsInHanded_of_change (C := Try.checked) own started (by kernel_rfl) Try.func6
    (ChangeSpec.witness6 (enc := enc) (C := Try.checked) false ⟨#[], #[.string ByteArray.empty, .int .i64 0], []⟩ 8 (by kernel_rfl) (by kernel_rfl) (by kernel_rfl) (by kernel_rfl)) ?_
  intro W base args ds gs before hval0 hW hcnd _
  have hval : ∀ (j : Nat) t v, Try.f6.params[j]? = some t → args[j]? = some v → Value.okWide Try.prog W .any base t v := hval0
  have hW' := hW
  obtain ⟨p, q, hA0, hV, rfl, hfz, hnd⟩ := hW
  have hA : DataW.TrodAll enc Try.prog W 0 (fun _ => true) true Try.f6.params.toList args.toList ds p := hA0
  rw [Try.params6] at hA hval
  obtain ⟨v0, vs0, d0, ds0, p0, q0, hargs, rfl, rfl, h0, r0⟩ := trodAll_cons hA
  obtain ⟨v1, vs1, d1, ds1, p1, q1, rfl, rfl, rfl, h1, r1⟩ := trodAll_cons r0
  obtain ⟨rfl, rfl, rfl⟩ := trodAll_nil r1
  obtain rfl : args = #[v0, v1] := by cases args; simp_all
  obtain ⟨rfl, rfl⟩ := trodVars_none hV
  have k0 := h0
  have lt0 : ∀ x ∈ p0, x.block < W.heap.size := by obtain ⟨m, hm⟩ := k0; exact DataW.trod_lt m _ _ _ hm
  obtain ⟨a0, rfl, rfl, rfl, w0⟩ := open_string Try.underlying9 (hval 0 9 v0 rfl rfl) h0
  have k1 := h1
  have lt1 : ∀ x ∈ p1, x.block < W.heap.size := by obtain ⟨m, hm⟩ := k1; exact DataW.trod_lt m _ _ _ hm
  obtain ⟨a1, rfl, rfl, rfl, w1⟩ := open_int Try.underlying3 (hval 1 3 v1 rfl rfl) h1
  clear hA0 hval0
  refine (walk a0 a1 W w0 w1).mono fun e W' ⟨he, bel⟩ => ?_
  subst he
  exact ⟨_, rfl, _, _, _, [], _, [], hW', trodAll_mk1 (shut_bool Try.underlying4 _), (trodAll_cons_mk (Below.trod laidOut (by kernel_rfl) (of_decide_eq_true (by kernel_rfl)) k0 bel lt0) (trodAll_cons_mk (Below.trod laidOut (by kernel_rfl) (of_decide_eq_true (by kernel_rfl)) k1 bel lt1) trodAll_mk0)), rfl, bel.frame _, fun h => by cases h⟩

theorem over : Rows.nearNilRow.holds Try.pinned (OpenSpec.ofChange Rows.nearNilSpec) :=
  OpenClaim.holds_of_wide 6 Try.f6 rfl rfl rfl rfl rfl rfl rfl ⟨rfl, rfl, rfl, rfl, rfl⟩ rfl rfl rfl rfl rfl (by kernel_rfl) Try.func6 (by kernel_rfl)
    (of_decide_eq_true (by kernel_rfl)) (by unfold Func.isWrapper; first | (rw [if_pos (by decide +kernel)]; kernel_rfl) | (rw [if_neg (by decide +kernel)]; exact ⟨rfl, rfl⟩))
    (fun os started H enc _ => lifted os started H enc)

theorem proved : Rows.NearNilSaid := over
#print axioms proved
end Go.Proofs.Ytimhdegdmdilaaa.nearNil
