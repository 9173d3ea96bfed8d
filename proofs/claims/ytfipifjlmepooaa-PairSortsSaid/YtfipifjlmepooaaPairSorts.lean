/- PairSorts: for every list of pairs the law returns true: what is sorted is the list of the document, it rises, and nothing is written into what was handed in. Conditions: none beyond the given statement. -/
import Derived.Test.YtfipifjlmepooaaRows
import Derived.WalkKit
import Derived.ProofKit
import Derived.OpenShut
import Derived.ShutString
import Derived.ChangeOld
import Derived.Below
import Derived.Carry
import Derived.Lib.SmallJoins
import Derived.Test.YtfipifjlmepooaaQf
namespace Go.Proofs.Ytfipifjlmepooaa.pairSorts
open Go.ChangeShapes Go.WideShapes Go.ChangeAt Go.RowKit Go.Joins Go.Lib
open Go.ChangeMaps (open_string shut_string)
set_option linter.unusedVariables false
set_option linter.unusedSimpArgs false

theorem own : ownKnob Try.prog.godebug = none := by kernel_rfl
theorem laidOut : laidOutB Try.prog = true := by kernel_rfl

theorem below_drew {B : Nat} {a w : World} (h : Below B a w) (n : Nat) : Below B a (w.drewN n) := ⟨h.os, h.tape, h.output, h.size, h.block⟩
theorem leq_self (xs : List Pr) : leq xs xs = true := by unfold leq; simp
set_option maxRecDepth 100000 in
set_option maxHeartbeats 4000000 in
theorem walk (a : Option Addr) (la ca : Nat) (ps : List Pr) (w : World) (ha : ArgP w a la ca ps) (hz : Sized ps) :
    Calls Try.prog 3 #[.slice a la ca] w fun e w' => e = .returned (.bool true) ∧ Below w.heap.size w w' := by
  have HZ := Lib.hid (sized_take hz 40)
  clear hz
  go_enter Try.func3, Try.ntmps3
  go_wp2_with fail
  refine (awake3 w).mono ?_
  rintro e w1 ⟨rfl, hB1⟩
  have ha1 := ha.below hB1
  clear ha
  go_wp2_with fail
  refine (few_any a la ca ps w1 ha1).mono ?_
  rintro e w2 ⟨g1, c1, rfl, hO1, hB2⟩
  have hl1 : (ps.take 40).length ≤ 40 := by rw [List.length_take]; omega
  generalize ps.take 40 = xs at *
  have hW2 := hB1.trans (hB2.mono hB1.size)
  have harg := hO1.arg
  obtain ⟨A, cA, hv1, hR1, hA1, -⟩ := hO1.lie
  simp at hv1
  obtain ⟨rfl, rfl⟩ := hv1
  clear ha1 hB1 hB2 hO1
  go_wp2_with fail
  refine (few_any _ _ _ xs w2 harg).mono ?_
  rintro e w3 ⟨g2, c2, rfl, hO2, hB3⟩
  rw [List.take_of_length_le hl1] at hO2 ⊢
  have hR1' := hR1.below hB3
  obtain ⟨A2, cA2, hv2, hR2, -, -⟩ := hO2.lie
  simp at hv2
  obtain ⟨rfl, rfl⟩ := hv2
  have hW3 := hW2.trans (hB3.mono hW2.size)
  clear harg hR1 hO2 hB3 hW2
  go_wp2_with fail
  refine (sorted_any _ _ xs w3 hR1' hA1 hl1 (by simp)).mono ?_
  rintro e w4 ⟨v3, R, rfl, hO3, hN, hB4⟩
  have hlR := norm_length hN
  obtain ⟨A3, c3, rfl, hR3, hA3, h03⟩ := hO3.lie
  have HN := Lib.hid hN
  have HA3 := Lib.hid hA3
  have H03 := Lib.hid h03
  have hR1a := hR1'.below hB4
  have hR2a := hR2.below hB4
  have hWa := hW3.trans (hB4.mono hW3.size)
  clear hN hR1' hR2 hO3 hB4 hW3 hA3 h03 hA1
  go_wp2_with fail
  refine (own_any _ c3 R _ hR3 (by omega)).mono ?_
  rintro e w5 ⟨v1, rfl, hQ1, hB5⟩
  obtain ⟨A1, cA1, rfl, hS1⟩ := hQ1.rd
  have hR1b := hR1a.below hB5
  have hR2b := hR2a.below hB5
  have hR3b := hR3.below hB5
  have hWb := hWa.trans (hB5.mono hWa.size)
  clear hQ1 hB5 hR1a hR2a hR3 hWa
  go_wp2_with fail
  refine (own_any _ c2 xs _ hR2b (by omega)).mono ?_
  rintro e w6 ⟨v1, rfl, hQ2, hB6⟩
  obtain ⟨A2, cA2, rfl, hS2⟩ := hQ2.rd
  have hR1c := hR1b.below hB6
  have hR2c := hR2b.below hB6
  have hR3c := hR3b.below hB6
  have hS1c := hS1.below hB6
  have hWc := hWb.trans (hB6.mono hWb.size)
  clear hQ2 hB6 hR1b hR2b hR3b hWb hS1
  go_wp2_with fail
  refine (refSorted_any A2 cA2 xs _ hS2 (by omega) HZ.out).mono ?_
  rintro e w7 ⟨v1, R2, rfl, hQ3, hN2, hB7⟩
  obtain rfl := norm_unique HN.out hN2
  obtain ⟨A4, cA4, rfl, hS3⟩ := hQ3.rd
  have hR1d := hR1c.below hB7
  have hR2d := hR2c.below hB7
  have hR3d := hR3c.below hB7
  have hS1d := hS1c.below hB7
  have hWd := hWc.trans (hB7.mono hWc.size)
  clear hQ3 hB7 hR1c hR2c hR3c hWc hS1c hS2 hN2
  go_wp2_with fail
  refine (refSame_any A1 A4 cA1 cA4 R R _ hS1d hS3 (by omega) (by omega)).mono ?_
  rintro e w' ⟨rfl, n1, rfl⟩
  rw [leq_self]
  have hR1e := hR1d.drewN n1
  have hR2e := hR2d.drewN n1
  have hR3e := hR3d.drewN n1
  have hWe := below_drew hWd n1
  clear hR1d hR2d hR3d hS1d hS3 hWd
  generalize w7.drewN n1 = w8 at *
  go_wp2_with fail
  refine (same_any _ _ c1 c2 xs xs _ hR1e hR2e (by omega) (by omega)).mono ?_
  rintro e w' ⟨rfl, n2, rfl⟩
  rw [leq_self]
  have hR1f := hR1e.drewN n2
  have hR3f := hR3e.drewN n2
  have hWf := below_drew hWe n2
  clear hR1e hR2e hR3e hWe
  generalize w8.drewN n2 = w9 at *
  have hri : risesB R = true := (risesB_iff R).2 HN.out.rises
  go_wp2_with fail
  refine (rises_any _ c3 R _ hR3f (by omega)).mono ?_
  rintro e w' ⟨rfl, n3, rfl⟩
  rw [hri]
  have hR1g := hR1f.drewN n3
  have hR3g := hR3f.drewN n3
  have hWg := below_drew hWf n3
  clear hR1f hR3f hWf hri
  generalize w9.drewN n3 = w10 at *
  go_wp2_with fail
  refine (rises_any _ c1 xs _ hR1g (by omega)).mono ?_
  rintro e w' ⟨rfl, n4, rfl⟩
  have hR1h := hR1g.drewN n4
  have hR3h := hR3g.drewN n4
  have hWh := below_drew hWg n4
  clear hR1g hR3g hWg
  generalize w10.drewN n4 = w11 at *
  go_wp2_with fail
  refine (own_any _ c1 xs _ hR1h (by omega)).mono ?_
  rintro e w12 ⟨v1, rfl, hQ4, hB12⟩
  obtain ⟨A5, cA5, rfl, hS5⟩ := hQ4.rd
  have hR3i := hR3h.below hB12
  have hWi := hWh.trans (hB12.mono hWh.size)
  clear hQ4 hB12 hR1h hR3h hWh
  go_wp2_with fail
  refine (refRises_any A5 cA5 xs _ hS5 (by omega) HZ.out).mono ?_
  rintro e w' ⟨rfl, n5, rfl⟩
  have hR3j := hR3i.drewN n5
  have hWj := below_drew hWi n5
  clear hS5 hR3i hWi
  generalize w12.drewN n5 = w13 at *
  have hee : (risesB xs == risesB xs) = true := by simp
  go_wp2_with fail
  refine (sorted_any A3 c3 R _ hR3j HA3.out (by omega) H03.out).mono ?_
  rintro e w14 ⟨v3, R3, rfl, hO4, hN3, hB14⟩
  obtain rfl := norm_unique hN3 (norm_self HN.out.rises)
  obtain ⟨A6, c6, rfl, hR6, -, -⟩ := hO4.lie
  have hR3k := hR3j.below hB14
  have hWk := hWj.trans (hB14.mono hWj.size)
  clear hR3j hWj hB14 hO4 hN3
  go_wp2_with fail
  refine (same_any _ _ c6 c3 R3 R3 _ hR6 hR3k (by omega) (by omega)).mono ?_
  rintro e w' ⟨rfl, n6, rfl⟩
  rw [leq_self]
  have hWl := below_drew hWk n6
  go_wp2_with fail
  go_ret
  exact ⟨rfl, hWl⟩

/-! ### THE ROW's STEP -/
set_option maxRecDepth 100000 in
theorem lifted (os : Os) (started : os.Started) (H : Type) (enc : TypeId × Value → H) :
    ReturnsInHanded {} Try.checked os 3 .any (Rows.pairSortsSpec.pre6 enc Try.prog Try.f3 Rows.pairSortsRow.domain false) (Rows.pairSortsSpec.post enc Try.prog Try.f3 false true false false) := by
  refine returnsInHanded_of_change (C := Try.checked) own started (by kernel_rfl) Try.func3
    (ChangeSpec.witness6 (enc := enc) (C := Try.checked) false ⟨#[], #[.slice none 0 0], []⟩ 8 (by kernel_rfl) (by kernel_rfl) (by kernel_rfl) (by kernel_rfl)) ?_
  intro W base args ds gs before hval0 hW hcnd _
  have hval : ∀ (j : Nat) t v, Try.f3.params[j]? = some t → args[j]? = some v → Value.okWide Try.prog W .any base t v := hval0
  have hW' := hW
  obtain ⟨p, q, hA0, hV, rfl, hfz, hnd⟩ := hW
  have hA : DataW.TrodAll enc Try.prog W 0 (fun _ => true) true Try.f3.params.toList args.toList ds p := hA0
  rw [Try.params3] at hA hval
  obtain ⟨v0, vs0, d0, ds0, p0, q0, hargs, rfl, rfl, h0, r0⟩ := trodAll_cons hA
  obtain ⟨rfl, rfl, rfl⟩ := trodAll_nil r0
  obtain rfl : args = #[v0] := by cases args; simp_all
  obtain ⟨rfl, rfl⟩ := trodVars_none hV
  obtain ⟨a0, len0, cap0, rfl⟩ := okWide_slice Try.underlying22 (hval 0 22 v0 rfl rfl)
  have k0 := h0
  have lt0 : ∀ x ∈ p0, x.block < W.heap.size := by obtain ⟨m, hm⟩ := k0; exact DataW.trod_lt m _ _ _ hm
  obtain ⟨z0, w0, s0⟩ := open_pairs_sized h0
  clear hA0 hval0
  refine (walk a0 len0 cap0 z0 W w0 s0).mono fun e W' ⟨he, bel⟩ => ?_
  subst he
  exact ⟨_, rfl, _, _, _, [], _, [], hW', trodAll_mk1 (shut_bool Try.underlying4 _), (trodAll_cons_mk (Below.trod laidOut (by kernel_rfl) (of_decide_eq_true (by kernel_rfl)) k0 bel lt0) trodAll_mk0), rfl, bel.frame _, fun h => by cases h⟩

theorem over : Rows.pairSortsRow.holds Try.pinned (OpenSpec.ofChange Rows.pairSortsSpec) :=
  OpenClaim.holds_of_wide 3 Try.f3 rfl rfl rfl rfl rfl rfl rfl ⟨rfl, rfl, rfl, rfl, rfl⟩ rfl rfl rfl rfl rfl (by kernel_rfl) Try.func3 (by kernel_rfl)
    (of_decide_eq_true (by kernel_rfl)) (by unfold Func.isWrapper; first | (rw [if_pos (by decide +kernel)]; kernel_rfl) | (rw [if_neg (by decide +kernel)]; exact ⟨rfl, rfl⟩))
    (fun os started H enc _ => lifted os started H enc)

theorem proved : Rows.PairSortsSaid := over
#print axioms proved
end Go.Proofs.Ytfipifjlmepooaa.pairSorts
