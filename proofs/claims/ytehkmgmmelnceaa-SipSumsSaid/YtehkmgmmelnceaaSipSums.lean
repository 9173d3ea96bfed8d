/- SipSums: for every key and string the law returns true: sip.Sum is the reference's sum. Conditions: none beyond the given statement. -/
import Derived.Test.YtehkmgmmelnceaaRows
import Derived.WalkKit
import Derived.ProofKit
import Derived.OpenShut
import Derived.ShutString
import Derived.ChangeOld
import Derived.Below
import Derived.Carry
import Derived.Lib.SmallJoins
import Derived.Deep.RegionHeld3
import Derived.Test.YtehkmgmmelnceaaSe
namespace Go.Proofs.Ytehkmgmmelnceaa.sipSums
open Go.ChangeShapes Go.WideShapes Go.ChangeAt Go.RowKit Go.Joins
open Go.ChangeMaps (open_string shut_string)
set_option linter.unusedVariables false
set_option linter.unusedSimpArgs false

theorem own : ownKnob Try.prog.godebug = none := by kernel_rfl
theorem laidOut : laidOutB Try.prog = true := by kernel_rfl
theorem cells24 : Try.prog.cellsOf 24 = 2 := by kernel_rfl

theorem u64b {n : Int} (h : (Lit.int .u64 n).wf = true) : 0 ≤ n ∧ n < 18446744073709551616 := by have := bounds_u64 h; omega

theorem held_of {w W W' : World} {k0 k1 : Int} (h : W.cell? ⟨w.heap.size, 0, none⟩ = some (.int .u64 k0) ∧ W.cell? ⟨w.heap.size, 1, none⟩ = some (.int .u64 k1) ∧ Below w.heap.size w W ∧ w.heap.size < W.heap.size) (hb : Below W.heap.size W W') :
    W'.cell? ⟨w.heap.size, 0, none⟩ = some (.int .u64 k0) ∧ W'.cell? ⟨w.heap.size, 1, none⟩ = some (.int .u64 k1) ∧ Below w.heap.size w W' ∧ w.heap.size < W'.heap.size :=
  ⟨(hb.cell (p := ⟨w.heap.size, 0, none⟩) h.2.2.2).trans h.1, (hb.cell (p := ⟨w.heap.size, 1, none⟩) h.2.2.2).trans h.2.1, h.2.2.1.trans (hb.mono h.2.2.1.size), Nat.lt_of_lt_of_le h.2.2.2 hb.size⟩

set_option maxHeartbeats 1000000 in
theorem tail (k0 k1 : Int) (s : ByteArray) (w : World) (h0 : 0 ≤ k0 ∧ k0 < 18446744073709551616) (h1 : 0 ≤ k1 ∧ k1 < 18446744073709551616) (hs : s.size ≤ maxLen) :
    Calls Try.prog 3 #[.agg #[.int .u64 k0, .int .u64 k1], .string s] w fun e w' => e = .returned (.bool true) ∧ Below w.heap.size w w' := by
  unfold maxLen at hs
  by_cases hl : 600 < s.size
  · go_enter Try.func3, Try.ntmps3
    go_wp2_with (go_at_call 11; refine (awake1 _).mono ?_; rintro e w1 ⟨rfl, hb1⟩)
    have B1 := (Blk.new w 24 #[.int .u64 k0, .int .u64 k1]).below hb1 (by simp)
    have hW : Below w.heap.size w w1 := Below.trans ((Below.refl _ _).alloc (Nat.le_refl _) _) (hb1.mono (by simp))
    have c0 : w1.cell? ⟨w.heap.size, 0, none⟩ = some (.int .u64 k0) := B1.cell 0
    have c1 : w1.cell? ⟨w.heap.size, 1, none⟩ = some (.int .u64 k1) := B1.cell 1
    have hlt := B1.lt
    clear B1 hb1
    go_region_held3 (fun w' => w'.cell? ⟨w.heap.size, 0, none⟩ = some (.int .u64 k0) ∧ w'.cell? ⟨w.heap.size, 1, none⟩ = some (.int .u64 k1) ∧ Below w.heap.size w w' ∧ w.heap.size < w'.heap.size)
      (first | exact ⟨c0, c1, hW.drew, hlt⟩ | exact held_of ⟨c0, c1, hW.drew, hlt⟩ hb2 | exact held_of (by assumption) hb2)
      (first | (go_at_call 12; refine (sum_any k0 k1 _ _ h0 h1 (by rw [ByteArray.size_extract]; omega)).mono ?_; rintro e w2 ⟨rfl, hb2⟩) | (go_at_call 13; refine (refSum_any k0 k1 _ _ h0 h1 (by rw [ByteArray.size_extract]; omega)).mono ?_; rintro e w2 ⟨rfl, hb2⟩))
    have hW2 : Below w.heap.size w w2 := (by assumption : w2.cell? ⟨w.heap.size, 0, none⟩ = some (.int .u64 k0) ∧ w2.cell? ⟨w.heap.size, 1, none⟩ = some (.int .u64 k1) ∧ Below w.heap.size w w2 ∧ w.heap.size < w2.heap.size).2.2.1
    go_wp2
    go_ret
    exact ⟨rfl, hW2⟩
  · go_enter Try.func3, Try.ntmps3
    go_wp2_with (go_at_call 11; refine (awake1 _).mono ?_; rintro e w1 ⟨rfl, hb1⟩)
    have B1 := (Blk.new w 24 #[.int .u64 k0, .int .u64 k1]).below hb1 (by simp)
    have hW : Below w.heap.size w w1 := Below.trans ((Below.refl _ _).alloc (Nat.le_refl _) _) (hb1.mono (by simp))
    have c0 : w1.cell? ⟨w.heap.size, 0, none⟩ = some (.int .u64 k0) := B1.cell 0
    have c1 : w1.cell? ⟨w.heap.size, 1, none⟩ = some (.int .u64 k1) := B1.cell 1
    have hlt := B1.lt
    clear B1 hb1
    go_region_held3 (fun w' => w'.cell? ⟨w.heap.size, 0, none⟩ = some (.int .u64 k0) ∧ w'.cell? ⟨w.heap.size, 1, none⟩ = some (.int .u64 k1) ∧ Below w.heap.size w w' ∧ w.heap.size < w'.heap.size)
      (first | exact ⟨c0, c1, hW.drew, hlt⟩ | exact held_of ⟨c0, c1, hW.drew, hlt⟩ hb2 | exact held_of (by assumption) hb2)
      (first | (go_at_call 12; refine (sum_any k0 k1 _ _ h0 h1 (by omega)).mono ?_; rintro e w2 ⟨rfl, hb2⟩) | (go_at_call 13; refine (refSum_any k0 k1 _ _ h0 h1 (by omega)).mono ?_; rintro e w2 ⟨rfl, hb2⟩))
    have hW2 : Below w.heap.size w w2 := (by assumption : w2.cell? ⟨w.heap.size, 0, none⟩ = some (.int .u64 k0) ∧ w2.cell? ⟨w.heap.size, 1, none⟩ = some (.int .u64 k1) ∧ Below w.heap.size w w2 ∧ w.heap.size < w2.heap.size).2.2.1
    go_wp2
    go_ret
    exact ⟨rfl, hW2⟩
theorem walk (a0 b0 : Int) (a1 : ByteArray) (w : World) (w0 : (Lit.int .u64 a0).wf = true) (u0 : (Lit.int .u64 b0).wf = true) (w1 : a1.size ≤ maxLen) :
    Calls Try.prog 3 #[.agg #[.int .u64 a0, .int .u64 b0], .string a1] w fun e w' => e = .returned (.bool true) ∧ Below w.heap.size w w' :=
  tail a0 b0 a1 w (u64b w0) (u64b u0) w1

/-! ### THE ROW's STEP -/
set_option maxRecDepth 100000 in
theorem lifted (os : Os) (started : os.Started) (H : Type) (enc : TypeId × Value → H) :
    ReturnsInHanded {} Try.checked os 3 .any (Rows.sipSumsSpec.pre6 enc Try.prog Try.f3 Rows.sipSumsRow.domain false) (Rows.sipSumsSpec.post enc Try.prog Try.f3 false true false false) := by
  refine returnsInHanded_of_change (C := Try.checked) own started (by kernel_rfl) Try.func3
    (ChangeSpec.witness6 (enc := enc) (C := Try.checked) false ⟨#[], #[.agg #[.int .u64 0, .int .u64 0], .string ByteArray.empty], []⟩ 8 (by kernel_rfl) (by kernel_rfl) (by kernel_rfl) (by kernel_rfl)) ?_
  intro W base args ds gs before hval0 hW hcnd _
  have hval : ∀ (j : Nat) t v, Try.f3.params[j]? = some t → args[j]? = some v → Value.okWide Try.prog W .any base t v := hval0
  have hW' := hW
  obtain ⟨p, q, hA0, hV, rfl, hfz, hnd⟩ := hW
  have hA : DataW.TrodAll enc Try.prog W 0 (fun _ => true) true Try.f3.params.toList args.toList ds p := hA0
  rw [Try.params3] at hA hval
  obtain ⟨v0, vs0, d0, ds0, p0, q0, hargs, rfl, rfl, h0, r0⟩ := trodAll_cons hA
  obtain ⟨v1, vs1, d1, ds1, p1, q1, rfl, rfl, rfl, h1, r1⟩ := trodAll_cons r0
  obtain ⟨rfl, rfl, rfl⟩ := trodAll_nil r1
  obtain rfl : args = #[v0, v1] := by cases args; simp_all
  obtain ⟨rfl, rfl⟩ := trodVars_none hV
  have k0 := h0
  have lt0 : ∀ x ∈ p0, x.block < W.heap.size := by obtain ⟨m, hm⟩ := k0; exact DataW.trod_lt m _ _ _ hm
  obtain ⟨x0, y0, e0, f0, m0, rfl, rfl, rfl, hx0, hy0⟩ := open_agg2 Try.underlying24 (by kernel_rfl) cells24 (hval 0 24 v0 rfl rfl) h0
  obtain ⟨a0, ex0, rfl, w0⟩ := DataW.trod_int Try.underlying22 hx0
  obtain ⟨b0, ey0, rfl, u0⟩ := DataW.trod_int Try.underlying22 hy0
  simp at ex0 ey0
  subst ex0 ey0
  have k1 := h1
  have lt1 : ∀ x ∈ p1, x.block < W.heap.size := by obtain ⟨m, hm⟩ := k1; exact DataW.trod_lt m _ _ _ hm
  obtain ⟨a1, rfl, rfl, rfl, w1⟩ := open_string Try.underlying9 (hval 1 9 v1 rfl rfl) h1
  clear hA0 hval0
  refine (walk a0 b0 a1 W w0 u0 w1).mono fun e W' ⟨he, bel⟩ => ?_
  subst he
  exact ⟨_, rfl, _, _, _, [], _, [], hW', trodAll_mk1 (shut_bool Try.underlying4 _), (trodAll_cons_mk (Below.trod laidOut (by kernel_rfl) (of_decide_eq_true (by kernel_rfl)) k0 bel lt0) (trodAll_cons_mk (Below.trod laidOut (by kernel_rfl) (of_decide_eq_true (by kernel_rfl)) k1 bel lt1) trodAll_mk0)), rfl, bel.frame _, fun h => by cases h⟩

theorem over : Rows.sipSumsRow.holds Try.pinned (OpenSpec.ofChange Rows.sipSumsSpec) :=
  OpenClaim.holds_of_wide 3 Try.f3 rfl rfl rfl rfl rfl rfl rfl ⟨rfl, rfl, rfl, rfl, rfl⟩ rfl rfl rfl rfl rfl (by kernel_rfl) Try.func3 (by kernel_rfl)
    (of_decide_eq_true (by kernel_rfl)) (by unfold Func.isWrapper; first | (rw [if_pos (by decide +kernel)]; kernel_rfl) | (rw [if_neg (by decide +kernel)]; exact ⟨rfl, rfl⟩))
    (fun os started H enc _ => lifted os started H enc)

theorem proved : Rows.SipSumsSaid := over
#print axioms proved
end Go.Proofs.Ytehkmgmmelnceaa.sipSums
