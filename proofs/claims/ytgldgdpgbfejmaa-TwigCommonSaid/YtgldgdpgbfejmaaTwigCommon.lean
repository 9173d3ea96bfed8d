/- TwigCommon: for every two strings the law returns true: how far they go together, who begins with whom, what stands behind. Conditions: none beyond the given statement. -/
import Derived.Test.YtgldgdpgbfejmaaRows
import Derived.WalkKit
import Derived.ProofKit
import Derived.OpenShut
import Derived.ShutString
import Derived.ChangeOld
import Derived.Below
import Derived.Carry
import Derived.Lib.SmallJoins
import Derived.Test.YtgldgdpgbfejmaaWd
namespace Go.Proofs.Ytgldgdpgbfejmaa.twigCommon
open Go.ChangeShapes Go.WideShapes Go.ChangeAt Go.RowKit Go.Joins
open Go.ChangeMaps (open_string shut_string)
set_option linter.unusedVariables false
set_option linter.unusedSimpArgs false

theorem own : ownKnob Try.prog.godebug = none := by kernel_rfl
theorem laidOut : laidOutB Try.prog = true := by kernel_rfl
open Go.RowKit Go.Lib

theorem rest_eq {a b : ByteArray} (h : bgB a b = true) : ((b ++ restS a b).toList == a.toList) = true := by
  unfold restS
  rw [if_pos h, ByteArray.toList_eq, ByteArray.toList_eq, beq_iff_eq, ByteArray.data_append, Array.toList_append, ext_from]
  obtain ⟨t, ht⟩ := (bgB_iff a b).1 h
  rw [← ht]
  have : b.size = b.data.toList.length := rfl
  rw [this, List.drop_left]
theorem rest_no {a b : ByteArray} (h : bgB a b = false) : restS a b = ByteArray.empty := by
  unfold restS
  rw [if_neg (by rw [h]; decide)]
theorem rest_size (a b : ByteArray) : (restS a b).size ≤ a.size := by
  unfold restS
  split
  · show (a.extract b.size a.size).data.toList.length ≤ a.data.toList.length
    rw [ext_from, List.length_drop]
    omega
  · exact Nat.zero_le _
theorem bg_self (a : ByteArray) : bgB a a = true := (bgB_iff _ _).2 (List.prefix_refl _)
theorem bg_nil (a : ByteArray) : bgB a ⟨#[]⟩ = true := (bgB_iff _ _).2 List.nil_prefix
theorem cm_comm (a b : ByteArray) : cm b a = cm a b := cmn_comm _ _
set_option maxRecDepth 100000 in
set_option maxHeartbeats 4000000 in
theorem walk (a b : ByteArray) (w : World) (h0 : a.size ≤ maxLen) (h1 : b.size ≤ maxLen) :
    Calls Try.prog 7 #[.string a, .string b] w fun e w' => e = .returned (.bool true) ∧ Below w.heap.size w w' := by
  obtain ⟨A, hA, _f1⟩ := fewC a h0
  obtain ⟨B, hBs, _f2⟩ := fewC b h1
  have hB : Below w.heap.size w w := Below.refl _ _
  have S := bg_self A
  have S2 := bg_nil A
  have S3 := cm_comm A B
  have hN : (ByteArray.mk #[]).size ≤ 120 := by decide
  rcases hb : bgB A B with _ | _
  · have hcut := fun w => cutW A B w (by omega) (by omega)
    rw [rest_no hb, hb] at hcut
    go_enter Try.func7, Try.ntmps7
    go_wp2_with (first
    | (go_at_call 36; refine (_f1 _).mono ?_; rintro e w' ⟨rfl, rfl⟩)
    | (go_at_call 36; refine (_f2 _).mono ?_; rintro e w' ⟨rfl, rfl⟩)
    | (go_at_call 36; refine (_f3 _).mono ?_; rintro e w' ⟨rfl, rfl⟩)
    | (go_at_call 35; refine (awakeW _).mono ?_; rintro e w' ⟨rfl, hb⟩; replace hB := Below.next hB hb; clear hb)
    | (go_at_call 37; refine (commonW _ _ _ (by first | omega | assumption) (by first | omega | assumption)).mono ?_; rintro e w' ⟨rfl, hb⟩; replace hB := Below.next hB hb; clear hb)
    | (go_at_call 39; refine (refCommonW _ _ _ (by first | omega | assumption) (by first | omega | assumption)).mono ?_; rintro e w' ⟨rfl, hb⟩; replace hB := Below.next hB hb; clear hb)
    | (go_at_call 40; refine (beginsW _ _ _ (by first | omega | assumption) (by first | omega | assumption)).mono ?_; rintro e w' ⟨rfl, hb⟩; replace hB := Below.next hB hb; clear hb)
    | (go_at_call 41; refine (refBeginsW _ _ _ (by first | omega | assumption) (by first | omega | assumption)).mono ?_; rintro e w' ⟨rfl, hb⟩; replace hB := Below.next hB hb; clear hb)
    | (go_at_call 38; refine (hcut _).mono ?_; rintro e w' ⟨rfl, hb'⟩; replace hB := Below.next hB hb'; clear hb'))
    go_ret
    exact ⟨rfl, hB⟩
  · have hcut := fun w => cutW A B w (by omega) (by omega)
    rw [hb] at hcut
    have L := rest_eq hb
    have hR := rest_size A B
    go_enter Try.func7, Try.ntmps7
    go_wp2_with (first
    | (go_at_call 36; refine (_f1 _).mono ?_; rintro e w' ⟨rfl, rfl⟩)
    | (go_at_call 36; refine (_f2 _).mono ?_; rintro e w' ⟨rfl, rfl⟩)
    | (go_at_call 36; refine (_f3 _).mono ?_; rintro e w' ⟨rfl, rfl⟩)
    | (go_at_call 35; refine (awakeW _).mono ?_; rintro e w' ⟨rfl, hb⟩; replace hB := Below.next hB hb; clear hb)
    | (go_at_call 37; refine (commonW _ _ _ (by first | omega | assumption) (by first | omega | assumption)).mono ?_; rintro e w' ⟨rfl, hb⟩; replace hB := Below.next hB hb; clear hb)
    | (go_at_call 39; refine (refCommonW _ _ _ (by first | omega | assumption) (by first | omega | assumption)).mono ?_; rintro e w' ⟨rfl, hb⟩; replace hB := Below.next hB hb; clear hb)
    | (go_at_call 40; refine (beginsW _ _ _ (by first | omega | assumption) (by first | omega | assumption)).mono ?_; rintro e w' ⟨rfl, hb⟩; replace hB := Below.next hB hb; clear hb)
    | (go_at_call 41; refine (refBeginsW _ _ _ (by first | omega | assumption) (by first | omega | assumption)).mono ?_; rintro e w' ⟨rfl, hb⟩; replace hB := Below.next hB hb; clear hb)
    | (go_at_call 38; refine (hcut _).mono ?_; rintro e w' ⟨rfl, hb'⟩; replace hB := Below.next hB hb'; clear hb'))
    go_ret
    exact ⟨rfl, hB⟩

/-! ### THE ROW's STEP -/
set_option maxRecDepth 100000 in
theorem lifted (os : Os) (started : os.Started) (H : Type) (enc : TypeId × Value → H) :
    ReturnsInHanded {} Try.checked os 7 .any (Rows.twigCommonSpec.pre6 enc Try.prog Try.f7 Rows.twigCommonRow.domain false) (Rows.twigCommonSpec.post enc Try.prog Try.f7 false true false false) := by
  refine returnsInHanded_of_change (C := Try.checked) own started (by kernel_rfl) Try.func7
    (ChangeSpec.witness6 (enc := enc) (C := Try.checked) false ⟨#[], #[.string ByteArray.empty, .string ByteArray.empty], []⟩ 8 (by kernel_rfl) (by kernel_rfl) (by kernel_rfl) (by kernel_rfl)) ?_
  intro W base args ds gs before hval0 hW hcnd _
  have hval : ∀ (j : Nat) t v, Try.f7.params[j]? = some t → args[j]? = some v → Value.okWide Try.prog W .any base t v := hval0
  have hW' := hW
  obtain ⟨p, q, hA0, hV, rfl, hfz, hnd⟩ := hW
  have hA : DataW.TrodAll enc Try.prog W 0 (fun _ => true) true Try.f7.params.toList args.toList ds p := hA0
  rw [Try.params7] at hA hval
  obtain ⟨v0, vs0, d0, ds0, p0, q0, hargs, rfl, rfl, h0, r0⟩ := trodAll_cons hA
  obtain ⟨v1, vs1, d1, ds1, p1, q1, rfl, rfl, rfl, h1, r1⟩ := trodAll_cons r0
  obtain ⟨rfl, rfl, rfl⟩ := trodAll_nil r1
  obtain rfl : args = #[v0, v1] := by cases args; simp_all
  obtain ⟨rfl, rfl⟩ := trodVars_none hV
  have k0 := h0
  have lt0 : ∀ x ∈ p0, x.block < W.heap.size := by obtain ⟨m, hm⟩ := k0; exact DataW.trod_lt m _ _ _ hm
  obtain ⟨a0, rfl, rfl, rfl, w0⟩ := open_string Try.underlying9 (hval 0 9 v0 rfl rfl) h0
  have k1 := h1
  have lt1 : ∀ x ∈ p1, x.block < W.heap.size := by obtain ⟨m, hm⟩ := k1; exact DataW.trod_lt m _ _ _ hm
  obtain ⟨a1, rfl, rfl, rfl, w1⟩ := open_string Try.underlying9 (hval 1 9 v1 rfl rfl) h1
  clear hA0 hval0
  refine (walk a0 a1 W w0 w1).mono fun e W' ⟨he, bel⟩ => ?_
  subst he
  exact ⟨_, rfl, _, _, _, [], _, [], hW', trodAll_mk1 (shut_bool Try.underlying4 _), (trodAll_cons_mk (Below.trod laidOut (by kernel_rfl) (of_decide_eq_true (by kernel_rfl)) k0 bel lt0) (trodAll_cons_mk (Below.trod laidOut (by kernel_rfl) (of_decide_eq_true (by kernel_rfl)) k1 bel lt1) trodAll_mk0)), rfl, bel.frame _, fun h => by cases h⟩

theorem over : Rows.twigCommonRow.holds Try.pinned (OpenSpec.ofChange Rows.twigCommonSpec) :=
  OpenClaim.holds_of_wide 7 Try.f7 rfl rfl rfl rfl rfl rfl rfl ⟨rfl, rfl, rfl, rfl, rfl⟩ rfl rfl rfl rfl rfl (by kernel_rfl) Try.func7 (by kernel_rfl)
    (of_decide_eq_true (by kernel_rfl)) (by unfold Func.isWrapper; first | (rw [if_pos (by decide +kernel)]; kernel_rfl) | (rw [if_neg (by decide +kernel)]; exact ⟨rfl, rfl⟩))
    (fun os started H enc _ => lifted os started H enc)

theorem proved : Rows.TwigCommonSaid := over
#print axioms proved
end Go.Proofs.Ytgldgdpgbfejmaa.twigCommon
