/- TwigAbove: for every three strings the law returns true: what is above all that begin with something. Conditions: none beyond the given statement. -/
import Derived.Test.YtgldgdpgbfejmaaRows
import Derived.WalkKit
import Derived.ProofKit
import Derived.OpenShut
import Derived.ShutString
import Derived.ChangeOld
import Derived.Below
import Derived.Carry
import Derived.Lib.SmallJoins
import Derived.Test.YtgldgdpgbfejmaaWd
namespace Go.Proofs.Ytgldgdpgbfejmaa.twigAbove
open Go.ChangeShapes Go.WideShapes Go.ChangeAt Go.RowKit Go.Joins
open Go.ChangeMaps (open_string shut_string)
set_option linter.unusedVariables false
set_option linter.unusedSimpArgs false

theorem own : ownKnob Try.prog.godebug = none := by kernel_rfl
theorem laidOut : laidOutB Try.prog = true := by kernel_rfl
open Go.RowKit Go.Lib

theorem ab_of {s : ByteArray} (h : abB s = true) : abv s.data.toList = some (abS s).data.toList := by
  unfold abB abS at *
  cases hv : abv s.data.toList with
  | none => rw [hv] at h; cases h
  | some u => rfl
theorem ab_none {s : ByteArray} (h : abB s = false) : abv s.data.toList = none := by
  unfold abB at h
  cases hv : abv s.data.toList with
  | none => rfl
  | some u => rw [hv] at h; cases h
theorem app_list (a b : ByteArray) : (a ++ b).data.toList = a.data.toList ++ b.data.toList := by rw [ByteArray.data_append, Array.toList_append]
theorem up_lt (s m : ByteArray) (h : abB s = true) : ltB (s ++ m) (abS s) = true := by
  rw [ltB_iff, abv_iff (ab_of h), app_list]
  exact .inr (List.prefix_append _ _)
theorem up_bt (s o : ByteArray) (h : abB s = true) : btB o s (abS s) = bgB o s := by
  unfold btB
  rw [Bool.eq_iff_iff, bgB_iff, abv_between (ab_of h), Bool.and_eq_true, Bool.not_eq_true', ltB_iff, Bool.eq_false_iff]
  show (¬ (ltB o s = true)) ∧ _ ↔ _
  rw [ltB_iff]
theorem no_lt (s o : ByteArray) (h : abB s = false) (hl : ltB o s = false) : bgB o s = true := by
  rcases abv_no (ab_none h) o.data.toList with h1 | h1
  · rw [← ltB_iff, hl] at h1; cases h1
  · exact (bgB_iff _ _).2 h1
theorem app_size (a b : ByteArray) : (a ++ b).size = a.size + b.size := ByteArray.size_append
theorem ab_size (s : ByteArray) (h : s.size ≤ 60) : (abS s).size ≤ 61 := by
  rcases hb : abB s with _ | _
  · have := (ab_no (ab_none hb)).1
    rw [this]; decide
  · obtain ⟨p, c, k, hc, h1, h2⟩ := abv_some (ab_of hb)
    have e1 : s.size = (p ++ c :: List.replicate k 255).length := congrArg List.length h1
    have e2 : (abS s).size = (p ++ [c + 1]).length := congrArg List.length h2
    simp at e1 e2
    omega
set_option maxRecDepth 100000 in
set_option maxHeartbeats 4000000 in
theorem walk (a b c : ByteArray) (w : World) (h0 : a.size ≤ maxLen) (h1 : b.size ≤ maxLen) (h2 : c.size ≤ maxLen) :
    Calls Try.prog 8 #[.string a, .string b, .string c] w fun e w' => e = .returned (.bool true) ∧ Below w.heap.size w w' := by
  obtain ⟨A, hA, _f1⟩ := fewC a h0
  obtain ⟨B, hBs, _f2⟩ := fewC b h1
  obtain ⟨C, hC, _f3⟩ := fewC c h2
  have hB : Below w.heap.size w w := Below.refl _ _
  have hAB := Lib.hid (app_size A B)
  have hup := ab_size A hA
  rcases hb : abB A with _ | _
  · rcases hl : ltB C A with _ | _
    · have L := no_lt A C hb hl
      go_enter Try.func8, Try.ntmps8
      go_wp2_with (first
    | (go_at_call 36; refine (_f1 _).mono ?_; rintro e w' ⟨rfl, rfl⟩)
    | (go_at_call 36; refine (_f2 _).mono ?_; rintro e w' ⟨rfl, rfl⟩)
    | (go_at_call 36; refine (_f3 _).mono ?_; rintro e w' ⟨rfl, rfl⟩)
    | (go_at_call 35; refine (awakeW _).mono ?_; rintro e w' ⟨rfl, hb⟩; replace hB := Below.next hB hb; clear hb)
    | (go_at_call 41; refine (refBeginsW _ _ _ (by first | omega | (have := hAB.out; omega)) (by first | omega | (have := hAB.out; omega))).mono ?_; rintro e w' ⟨rfl, hb⟩; replace hB := Below.next hB hb; clear hb)
    | (go_at_call 44; refine (lessW _ _ _ (by first | omega | (have := hAB.out; omega)) (by first | omega | (have := hAB.out; omega))).mono ?_; rintro e w' ⟨rfl, hb⟩; replace hB := Below.next hB hb; clear hb)
    | (go_at_call 45; refine (refBetweenW _ _ _ _ (by first | omega | (have := hAB.out; omega)) (by first | omega | (have := hAB.out; omega)) (by first | omega | (have := hAB.out; omega))).mono ?_; rintro e w' ⟨rfl, hb⟩; replace hB := Below.next hB hb; clear hb)
    | (go_at_call 42; refine (aboveW _ _ (by first | omega | (have := hAB.out; omega))).mono ?_; rintro e w' ⟨rfl, hb⟩; replace hB := Below.next hB hb; clear hb)
    | (go_at_call 43; refine (refAboveW _ _ (by first | omega | (have := hAB.out; omega))).mono ?_; rintro e w' ⟨rfl, hb⟩; replace hB := Below.next hB hb; clear hb))
      go_ret
      exact ⟨rfl, hB⟩
    · go_enter Try.func8, Try.ntmps8
      go_wp2_with (first
    | (go_at_call 36; refine (_f1 _).mono ?_; rintro e w' ⟨rfl, rfl⟩)
    | (go_at_call 36; refine (_f2 _).mono ?_; rintro e w' ⟨rfl, rfl⟩)
    | (go_at_call 36; refine (_f3 _).mono ?_; rintro e w' ⟨rfl, rfl⟩)
    | (go_at_call 35; refine (awakeW _).mono ?_; rintro e w' ⟨rfl, hb⟩; replace hB := Below.next hB hb; clear hb)
    | (go_at_call 41; refine (refBeginsW _ _ _ (by first | omega | (have := hAB.out; omega)) (by first | omega | (have := hAB.out; omega))).mono ?_; rintro e w' ⟨rfl, hb⟩; replace hB := Below.next hB hb; clear hb)
    | (go_at_call 44; refine (lessW _ _ _ (by first | omega | (have := hAB.out; omega)) (by first | omega | (have := hAB.out; omega))).mono ?_; rintro e w' ⟨rfl, hb⟩; replace hB := Below.next hB hb; clear hb)
    | (go_at_call 45; refine (refBetweenW _ _ _ _ (by first | omega | (have := hAB.out; omega)) (by first | omega | (have := hAB.out; omega)) (by first | omega | (have := hAB.out; omega))).mono ?_; rintro e w' ⟨rfl, hb⟩; replace hB := Below.next hB hb; clear hb)
    | (go_at_call 42; refine (aboveW _ _ (by first | omega | (have := hAB.out; omega))).mono ?_; rintro e w' ⟨rfl, hb⟩; replace hB := Below.next hB hb; clear hb)
    | (go_at_call 43; refine (refAboveW _ _ (by first | omega | (have := hAB.out; omega))).mono ?_; rintro e w' ⟨rfl, hb⟩; replace hB := Below.next hB hb; clear hb))
      go_ret
      exact ⟨rfl, hB⟩
  · have L1 := up_lt A B hb
    have L2 := up_bt A C hb
    go_enter Try.func8, Try.ntmps8
    go_wp2_with (first
    | (go_at_call 36; refine (_f1 _).mono ?_; rintro e w' ⟨rfl, rfl⟩)
    | (go_at_call 36; refine (_f2 _).mono ?_; rintro e w' ⟨rfl, rfl⟩)
    | (go_at_call 36; refine (_f3 _).mono ?_; rintro e w' ⟨rfl, rfl⟩)
    | (go_at_call 35; refine (awakeW _).mono ?_; rintro e w' ⟨rfl, hb⟩; replace hB := Below.next hB hb; clear hb)
    | (go_at_call 41; refine (refBeginsW _ _ _ (by first | omega | (have := hAB.out; omega)) (by first | omega | (have := hAB.out; omega))).mono ?_; rintro e w' ⟨rfl, hb⟩; replace hB := Below.next hB hb; clear hb)
    | (go_at_call 44; refine (lessW _ _ _ (by first | omega | (have := hAB.out; omega)) (by first | omega | (have := hAB.out; omega))).mono ?_; rintro e w' ⟨rfl, hb⟩; replace hB := Below.next hB hb; clear hb)
    | (go_at_call 45; refine (refBetweenW _ _ _ _ (by first | omega | (have := hAB.out; omega)) (by first | omega | (have := hAB.out; omega)) (by first | omega | (have := hAB.out; omega))).mono ?_; rintro e w' ⟨rfl, hb⟩; replace hB := Below.next hB hb; clear hb)
    | (go_at_call 42; refine (aboveW _ _ (by first | omega | (have := hAB.out; omega))).mono ?_; rintro e w' ⟨rfl, hb⟩; replace hB := Below.next hB hb; clear hb)
    | (go_at_call 43; refine (refAboveW _ _ (by first | omega | (have := hAB.out; omega))).mono ?_; rintro e w' ⟨rfl, hb⟩; replace hB := Below.next hB hb; clear hb))
    go_ret
    exact ⟨rfl, hB⟩

/-! ### THE ROW's STEP -/
set_option maxRecDepth 100000 in
theorem lifted (os : Os) (started : os.Started) (H : Type) (enc : TypeId × Value → H) :
    ReturnsInHanded {} Try.checked os 8 .any (Rows.twigAboveSpec.pre6 enc Try.prog Try.f8 Rows.twigAboveRow.domain false) (Rows.twigAboveSpec.post enc Try.prog Try.f8 false true false false) := by
  refine returnsInHanded_of_change (C := Try.checked) own started (by kernel_rfl) Try.func8
    (ChangeSpec.witness6 (enc := enc) (C := Try.checked) false ⟨#[], #[.string ByteArray.empty, .string ByteArray.empty, .string ByteArray.empty], []⟩ 8 (by kernel_rfl) (by kernel_rfl) (by kernel_rfl) (by kernel_rfl)) ?_
  intro W base args ds gs before hval0 hW hcnd _
  have hval : ∀ (j : Nat) t v, Try.f8.params[j]? = some t → args[j]? = some v → Value.okWide Try.prog W .any base t v := hval0
  have hW' := hW
  obtain ⟨p, q, hA0, hV, rfl, hfz, hnd⟩ := hW
  have hA : DataW.TrodAll enc Try.prog W 0 (fun _ => true) true Try.f8.params.toList args.toList ds p := hA0
  rw [Try.params8] at hA hval
  obtain ⟨v0, vs0, d0, ds0, p0, q0, hargs, rfl, rfl, h0, r0⟩ := trodAll_cons hA
  obtain ⟨v1, vs1, d1, ds1, p1, q1, rfl, rfl, rfl, h1, r1⟩ := trodAll_cons r0
  obtain ⟨v2, vs2, d2, ds2, p2, q2, rfl, rfl, rfl, h2, r2⟩ := trodAll_cons r1
  obtain ⟨rfl, rfl, rfl⟩ := trodAll_nil r2
  obtain rfl : args = #[v0, v1, v2] := by cases args; simp_all
  obtain ⟨rfl, rfl⟩ := trodVars_none hV
  have k0 := h0
  have lt0 : ∀ x ∈ p0, x.block < W.heap.size := by obtain ⟨m, hm⟩ := k0; exact DataW.trod_lt m _ _ _ hm
  obtain ⟨a0, rfl, rfl, rfl, w0⟩ := open_string Try.underlying9 (hval 0 9 v0 rfl rfl) h0
  have k1 := h1
  have lt1 : ∀ x ∈ p1, x.block < W.heap.size := by obtain ⟨m, hm⟩ := k1; exact DataW.trod_lt m _ _ _ hm
  obtain ⟨a1, rfl, rfl, rfl, w1⟩ := open_string Try.underlying9 (hval 1 9 v1 rfl rfl) h1
  have k2 := h2
  have lt2 : ∀ x ∈ p2, x.block < W.heap.size := by obtain ⟨m, hm⟩ := k2; exact DataW.trod_lt m _ _ _ hm
  obtain ⟨a2, rfl, rfl, rfl, w2⟩ := open_string Try.underlying9 (hval 2 9 v2 rfl rfl) h2
  clear hA0 hval0
  refine (walk a0 a1 a2 W w0 w1 w2).mono fun e W' ⟨he, bel⟩ => ?_
  subst he
  exact ⟨_, rfl, _, _, _, [], _, [], hW', trodAll_mk1 (shut_bool Try.underlying4 _), (trodAll_cons_mk (Below.trod laidOut (by kernel_rfl) (of_decide_eq_true (by kernel_rfl)) k0 bel lt0) (trodAll_cons_mk (Below.trod laidOut (by kernel_rfl) (of_decide_eq_true (by kernel_rfl)) k1 bel lt1) (trodAll_cons_mk (Below.trod laidOut (by kernel_rfl) (of_decide_eq_true (by kernel_rfl)) k2 bel lt2) trodAll_mk0))), rfl, bel.frame _, fun h => by cases h⟩

theorem over : Rows.twigAboveRow.holds Try.pinned (OpenSpec.ofChange Rows.twigAboveSpec) :=
  OpenClaim.holds_of_wide 8 Try.f8 rfl rfl rfl rfl rfl rfl rfl ⟨rfl, rfl, rfl, rfl, rfl⟩ rfl rfl rfl rfl rfl (by kernel_rfl) Try.func8 (by kernel_rfl)
    (of_decide_eq_true (by kernel_rfl)) (by unfold Func.isWrapper; first | (rw [if_pos (by decide +kernel)]; kernel_rfl) | (rw [if_neg (by decide +kernel)]; exact ⟨rfl, rfl⟩))
    (fun os started H enc _ => lifted os started H enc)

theorem proved : Rows.TwigAboveSaid := over
#print axioms proved
end Go.Proofs.Ytgldgdpgbfejmaa.twigAbove
