/- PairSame: for every two lists the law returns true: lists are alike just if they are, one by one. Conditions: none beyond the given statement. -/
import Derived.Test.YtfipifjlmepooaaRows
import Derived.WalkKit
import Derived.ProofKit
import Derived.OpenShut
import Derived.ShutString
import Derived.ChangeOld
import Derived.Below
import Derived.Carry
import Derived.Lib.SmallJoins
import Derived.Test.YtfipifjlmepooaaPh
namespace Go.Proofs.Ytfipifjlmepooaa.pairSame
open Go.ChangeShapes Go.WideShapes Go.ChangeAt Go.RowKit Go.Joins Go.Lib
open Go.ChangeMaps (open_string shut_string)
set_option linter.unusedVariables false
set_option linter.unusedSimpArgs false

theorem own : ownKnob Try.prog.godebug = none := by kernel_rfl
theorem laidOut : laidOutB Try.prog = true := by kernel_rfl

theorem below_drew {B : Nat} {a w : World} (h : Below B a w) (n : Nat) : Below B a (w.drewN n) := ⟨h.os, h.tape, h.output, h.size, h.block⟩
set_option maxRecDepth 100000 in
set_option maxHeartbeats 4000000 in
theorem walk (a : Option Addr) (la ca : Nat) (ps : List Pr) (b : Option Addr) (lb cb : Nat) (qs : List Pr) (s : Bool) (w : World) (ha : ArgP w a la ca ps) (hb : ArgP w b lb cb qs) :
    Calls Try.prog 6 #[.slice a la ca, .slice b lb cb, .bool s] w fun e w' => e = .returned (.bool true) ∧ Below w.heap.size w w' := by
  go_enter Try.func6, Try.ntmps6
  go_wp2_with fail
  refine (awake3 w).mono ?_
  rintro e w1 ⟨rfl, hB1⟩
  have ha1 := ha.below hB1
  have hb1 := hb.below hB1
  clear ha hb
  go_wp2_with fail
  refine (few_any a la ca ps w1 ha1).mono ?_
  rintro e w2 ⟨g1, c1, rfl, hO1, hB2⟩
  have hl1 : (ps.take 40).length ≤ 40 := by rw [List.length_take]; omega
  generalize ps.take 40 = xs at *
  have hb2 := hb1.below hB2
  have hW2 := hB1.trans (hB2.mono hB1.size)
  clear ha1 hb1 hB1 hB2
  go_wp2_with fail
  refine (few_any b lb cb qs w2 hb2).mono ?_
  rintro e w3 ⟨g2, c2, rfl, hO2, hB3⟩
  have hl2 : (qs.take 40).length ≤ 40 := by rw [List.length_take]; omega
  generalize qs.take 40 = ys at *
  have hO1' : Own w1.heap.size w3 (.slice (some ⟨g1, 0, none⟩) xs.length c1) xs := own_keep hO1 (Keep.of_below (X := []) hB3) (by simp)
  have hW3 := hW2.trans (hB3.mono hW2.size)
  clear hb2 hO1 hB3 hW2
  cases s with
  | false =>
    obtain ⟨A, cA, hv1, hR1, -⟩ := hO1'.rd
    simp at hv1
    obtain ⟨rfl, rfl⟩ := hv1
    obtain ⟨B, cB, hv2, hR2, -⟩ := hO2.rd
    simp at hv2
    obtain ⟨rfl, rfl⟩ := hv2
    clear hO1' hO2
    go_wp2_with fail
    refine (same_any _ _ c1 c2 xs ys _ hR1 hR2 (by omega) (by omega)).mono ?_
    rintro e w' ⟨rfl, n1, rfl⟩
    have hR1a := hR1.drewN n1
    have hR2a := hR2.drewN n1
    have hWa := below_drew hW3 n1
    clear hR1 hR2 hW3
    generalize w3.drewN n1 = wa at *
    go_wp2_with fail
    refine (own_any _ c1 xs _ hR1a (by omega)).mono ?_
    rintro e wb ⟨v1, rfl, hQ1, hBb⟩
    have hR1b := hR1a.below hBb
    have hR2b := hR2a.below hBb
    have hWb := hWa.trans (hBb.mono hWa.size)
    clear hR1a hR2a hWa hBb
    go_wp2_with fail
    refine (own_any _ c2 ys _ hR2b (by omega)).mono ?_
    rintro e wc ⟨v2, rfl, hQ2, hBc⟩
    obtain ⟨A1, cA1, rfl, hS1⟩ := hQ1.rd
    obtain ⟨A2, cA2, rfl, hS2⟩ := hQ2.rd
    have hS1c := hS1.below hBc
    have hR1c := hR1b.below hBc
    have hR2c := hR2b.below hBc
    have hWc := hWb.trans (hBc.mono hWb.size)
    clear hQ1 hQ2 hS1 hR1b hR2b hWb hBc
    go_wp2_with fail
    refine (refSame_any A1 A2 cA1 cA2 xs ys _ hS1c hS2 (by omega) (by omega)).mono ?_
    rintro e w' ⟨rfl, n2, rfl⟩
    have hR1d := hR1c.drewN n2
    have hR2d := hR2c.drewN n2
    have hWd := below_drew hWc n2
    clear hS1c hS2 hR1c hR2c hWc
    generalize wc.drewN n2 = wd at *
    have hee : (leq xs ys == leq xs ys) = true := by simp
    have hxx : leq xs xs = true := by unfold leq; simp
    go_wp2_with fail
    refine (same_any _ _ c1 c1 xs xs _ hR1d hR1d (by omega) (by omega)).mono ?_
    rintro e w' ⟨rfl, n3, rfl⟩
    have hR1e := hR1d.drewN n3
    have hR2e := hR2d.drewN n3
    have hWe := below_drew hWd n3
    rw [hxx]
    clear hR1d hR2d hWd
    generalize wd.drewN n3 = we at *
    go_wp2_with fail
    go_ret
    exact ⟨rfl, hWe⟩
  | true =>
    have harg := hO1'.arg
    go_wp2_with fail
    refine (few_any _ _ _ xs w3 harg).mono ?_
    rintro e w4 ⟨g3, c3, rfl, hO3, hB4⟩
    rw [List.take_of_length_le hl1] at hO3 ⊢
    have hO1'' : Own w1.heap.size w4 (.slice (some ⟨g1, 0, none⟩) xs.length c1) xs := own_keep hO1' (Keep.of_below (X := []) hB4) (by simp)
    have hW4 := hW3.trans (hB4.mono hW3.size)
    obtain ⟨A, cA, hv1, hR1, -⟩ := hO1''.rd
    simp at hv1
    obtain ⟨rfl, rfl⟩ := hv1
    obtain ⟨B, cB, hv2, hR2, -⟩ := hO3.rd
    simp at hv2
    obtain ⟨rfl, rfl⟩ := hv2
    clear hO1' hO2 hO1'' hO3 harg hB4 hW3
    go_wp2_with fail
    refine (same_any _ _ c1 c3 xs xs _ hR1 hR2 (by omega) (by omega)).mono ?_
    rintro e w' ⟨rfl, n1, rfl⟩
    have hR1a := hR1.drewN n1
    have hR2a := hR2.drewN n1
    have hWa := below_drew hW4 n1
    clear hR1 hR2 hW4
    generalize w4.drewN n1 = wa at *
    go_wp2_with fail
    refine (own_any _ c1 xs _ hR1a (by omega)).mono ?_
    rintro e wb ⟨v1, rfl, hQ1, hBb⟩
    have hR1b := hR1a.below hBb
    have hR2b := hR2a.below hBb
    have hWb := hWa.trans (hBb.mono hWa.size)
    clear hR1a hR2a hWa hBb
    go_wp2_with fail
    refine (own_any _ c3 xs _ hR2b (by omega)).mono ?_
    rintro e wc ⟨v2, rfl, hQ2, hBc⟩
    obtain ⟨A1, cA1, rfl, hS1⟩ := hQ1.rd
    obtain ⟨A2, cA2, rfl, hS2⟩ := hQ2.rd
    have hS1c := hS1.below hBc
    have hR1c := hR1b.below hBc
    have hR2c := hR2b.below hBc
    have hWc := hWb.trans (hBc.mono hWb.size)
    clear hQ1 hQ2 hS1 hR1b hR2b hWb hBc
    go_wp2_with fail
    refine (refSame_any A1 A2 cA1 cA2 xs xs _ hS1c hS2 (by omega) (by omega)).mono ?_
    rintro e w' ⟨rfl, n2, rfl⟩
    have hR1d := hR1c.drewN n2
    have hR2d := hR2c.drewN n2
    have hWd := below_drew hWc n2
    clear hS1c hS2 hR1c hR2c hWc
    generalize wc.drewN n2 = wd at *
    have hee : (leq xs xs == leq xs xs) = true := by simp
    have hxx : leq xs xs = true := by unfold leq; simp
    go_wp2_with fail
    refine (same_any _ _ c1 c1 xs xs _ hR1d hR1d (by omega) (by omega)).mono ?_
    rintro e w' ⟨rfl, n3, rfl⟩
    have hR1e := hR1d.drewN n3
    have hR2e := hR2d.drewN n3
    have hWe := below_drew hWd n3
    rw [hxx]
    clear hR1d hR2d hWd
    generalize wd.drewN n3 = we at *
    go_wp2_with fail
    refine (same_any _ _ c1 c3 xs xs _ hR1e hR2e (by omega) (by omega)).mono ?_
    rintro e w' ⟨rfl, n4, rfl⟩
    rw [hxx]
    have hWf := below_drew hWe n4
    go_wp2_with fail
    go_ret
    exact ⟨rfl, hWf⟩

/-! ### THE ROW's STEP -/
set_option maxRecDepth 100000 in
theorem lifted (os : Os) (started : os.Started) (H : Type) (enc : TypeId × Value → H) :
    ReturnsInHanded {} Try.checked os 6 .any (Rows.pairSameSpec.pre6 enc Try.prog Try.f6 Rows.pairSameRow.domain false) (Rows.pairSameSpec.post enc Try.prog Try.f6 false true false false) := by
  refine returnsInHanded_of_change (C := Try.checked) own started (by kernel_rfl) Try.func6
    (ChangeSpec.witness6 (enc := enc) (C := Try.checked) false ⟨#[], #[.slice none 0 0, .slice none 0 0, .bool false], []⟩ 8 (by kernel_rfl) (by kernel_rfl) (by kernel_rfl) (by kernel_rfl)) ?_
  intro W base args ds gs before hval0 hW hcnd _
  have hval : ∀ (j : Nat) t v, Try.f6.params[j]? = some t → args[j]? = some v → Value.okWide Try.prog W .any base t v := hval0
  have hW' := hW
  obtain ⟨p, q, hA0, hV, rfl, hfz, hnd⟩ := hW
  have hA : DataW.TrodAll enc Try.prog W 0 (fun _ => true) true Try.f6.params.toList args.toList ds p := hA0
  rw [Try.params6] at hA hval
  obtain ⟨v0, vs0, d0, ds0, p0, q0, hargs, rfl, rfl, h0, r0⟩ := trodAll_cons hA
  obtain ⟨v1, vs1, d1, ds1, p1, q1, rfl, rfl, rfl, h1, r1⟩ := trodAll_cons r0
  obtain ⟨v2, vs2, d2, ds2, p2, q2, rfl, rfl, rfl, h2, r2⟩ := trodAll_cons r1
  obtain ⟨rfl, rfl, rfl⟩ := trodAll_nil r2
  obtain rfl : args = #[v0, v1, v2] := by cases args; simp_all
  obtain ⟨rfl, rfl⟩ := trodVars_none hV
  obtain ⟨a0, len0, cap0, rfl⟩ := okWide_slice Try.underlying22 (hval 0 22 v0 rfl rfl)
  have k0 := h0
  have lt0 : ∀ x ∈ p0, x.block < W.heap.size := by obtain ⟨m, hm⟩ := k0; exact DataW.trod_lt m _ _ _ hm
  obtain ⟨z0, w0⟩ := open_pairs h0
  obtain ⟨a1, len1, cap1, rfl⟩ := okWide_slice Try.underlying22 (hval 1 22 v1 rfl rfl)
  have k1 := h1
  have lt1 : ∀ x ∈ p1, x.block < W.heap.size := by obtain ⟨m, hm⟩ := k1; exact DataW.trod_lt m _ _ _ hm
  obtain ⟨z1, w1⟩ := open_pairs h1
  have k2 := h2
  have lt2 : ∀ x ∈ p2, x.block < W.heap.size := by obtain ⟨m, hm⟩ := k2; exact DataW.trod_lt m _ _ _ hm
  obtain ⟨a2, rfl, rfl, rfl⟩ := open_bool Try.underlying4 (hval 2 4 v2 rfl rfl) h2
  clear hA0 hval0
  refine (walk a0 len0 cap0 z0 a1 len1 cap1 z1 a2 W w0 w1).mono fun e W' ⟨he, bel⟩ => ?_
  subst he
  exact ⟨_, rfl, _, _, _, [], _, [], hW', trodAll_mk1 (shut_bool Try.underlying4 _), (trodAll_cons_mk (Below.trod laidOut (by kernel_rfl) (of_decide_eq_true (by kernel_rfl)) k0 bel lt0) (trodAll_cons_mk (Below.trod laidOut (by kernel_rfl) (of_decide_eq_true (by kernel_rfl)) k1 bel lt1) (trodAll_cons_mk (Below.trod laidOut (by kernel_rfl) (of_decide_eq_true (by kernel_rfl)) k2 bel lt2) trodAll_mk0))), rfl, bel.frame _, fun h => by cases h⟩

theorem over : Rows.pairSameRow.holds Try.pinned (OpenSpec.ofChange Rows.pairSameSpec) :=
  OpenClaim.holds_of_wide 6 Try.f6 rfl rfl rfl rfl rfl rfl rfl ⟨rfl, rfl, rfl, rfl, rfl⟩ rfl rfl rfl rfl rfl (by kernel_rfl) Try.func6 (by kernel_rfl)
    (of_decide_eq_true (by kernel_rfl)) (by unfold Func.isWrapper; first | (rw [if_pos (by decide +kernel)]; kernel_rfl) | (rw [if_neg (by decide +kernel)]; exact ⟨rfl, rfl⟩))
    (fun os started H enc _ => lifted os started H enc)

theorem proved : Rows.PairSameSaid := over
#print axioms proved
end Go.Proofs.Ytfipifjlmepooaa.pairSame
