/- TokenFull: for every number the law returns true: as many tokens as ids can be live at once, one more is refused, and each ends once. Conditions: none beyond the given statement. -/
import Derived.Test.YtfipifjlmepooaaRows
import Derived.WalkKit
import Derived.ProofKit
import Derived.OpenShut
import Derived.ShutString
import Derived.ChangeOld
import Derived.Below
import Derived.Carry
import Derived.Lib.SmallJoins
import Derived.Test.YtfipifjlmepooaaTf
namespace Go.Proofs.Ytfipifjlmepooaa.tokenFull
open Go.ChangeShapes Go.WideShapes Go.ChangeAt Go.RowKit Go.Joins Go.Conc
open Go.ChangeMaps (open_string shut_string)
set_option linter.unusedVariables false
set_option linter.unusedSimpArgs false

theorem own : ownKnob Try.prog.godebug = none := by kernel_rfl
theorem laidOut : laidOutB Try.prog = true := by kernel_rfl

theorem upto_drop (k j : Nat) (h : j < k) : (upto k).drop j = (j + 1) :: (upto k).drop (j + 1) := by
  rw [List.drop_eq_getElem_cons (by rw [upto_length]; exact h)]
  congr 1
  simp [upto]; omega
/-- the j-th has id j + 1; those from m on are live -/
def InRow (m : Nat) (L : TL) : Prop := ∀ (i : Nat) (x : Nat × Nat × Bool), L[i]? = some x → x.2 = (i + 1, decide (m ≤ i))
theorem inRow_snoc {L : TL} (h : InRow 0 L) (t : Nat) : InRow 0 (L ++ [(t, L.length + 1, true)]) := by
  intro i x hx
  rw [List.getElem?_append] at hx
  split at hx
  · exact h i x hx
  · rename_i hge
    rw [List.getElem?_singleton] at hx
    split at hx
    · obtain rfl := Option.some.inj hx
      have : i = L.length := by omega
      subst this
      simp
    · cases hx
theorem inRow_set {L : TL} {m : Nat} (h : InRow m L) (x : Nat × Nat × Bool) (hx : L[m]? = some x) : InRow (m + 1) (L.set m (x.1, x.2.1, false)) := by
  intro i y hy
  obtain ⟨hl, _⟩ := List.getElem?_eq_some_iff.1 hx
  rw [List.getElem?_set] at hy
  have h0 := h m x hx
  split at hy
  · rename_i e; subst e
    obtain rfl := Option.some.inj hy
    simp [h0]
  · rename_i hne
    rw [h i y hy]
    simp only [Prod.mk.injEq, true_and, decide_eq_decide]
    omega

set_option maxRecDepth 100000 in
set_option maxHeartbeats 8000000 in
theorem walk' (k : Nat) (n : Int) (w : World) (hk : 1 ≤ k ∧ k ≤ 300) (hn : Hid ((1 + n % 300 : Int) = (k : Int))) (hb : 0 ≤ n ∧ n ≤ 65535) :
    Calls Try.prog 9 #[.int .u16 n] w fun e w' => e = .returned (.bool true) ∧ Below w.heap.size w w' := by
  obtain ⟨i0, hi, hz0, hz1, hz2⟩ := info_parts info57
  go_enter Try.func9, Try.ntmps9
  go_wp2_with fail
  refine (awake4 w).mono ?_
  rintro e w1 ⟨rfl, hB1⟩
  go_wp2_with fail
  rw [hn.out]
  refine (new_is k w1 hk.1 (by omega)).mono ?_
  rintro e w2 ⟨p, c, rfl, hP2, hp, hc, hB2⟩
  have hB := hB1.trans (hB2.mono hB1.size)
  have s1 := hB1.size
  clear hB1 hB2 hb
  go_wp2_with fail
  refine (new_is k w2 hk.1 (by omega)).mono ?_
  rintro e w3 ⟨p2, c2, rfl, hP3, hp2, hc2, hB3⟩
  have hl2 := hP2.lt
  have hP2' : Pool w3 p c k 0 (upto k) := hP2.keep (X := []) (Keep.of_below hB3) (by simp) (by simp)
  have hB' := hB.trans (hB3.mono hB.size)
  have nep : p2 ≠ p := by omega
  have nepc : p2 ≠ c := by omega
  have necp : c2 ≠ p := by omega
  have necc : c2 ≠ c := by omega
  have gp : w.heap.size ≤ p := by omega
  have gc : w.heap.size ≤ c := by omega
  clear hP2 hB hB3 hl2 hp hc hp2 hc2 s1
  unfold at0
  go_wp2_with fail
  go_loopw [8, 33] (fun v i wr => ∃ (j : Nat) (L : TL), j ≤ k ∧ i = .int .i64 j ∧ Hid (L.length = j) ∧ Hid (InRow 0 L) ∧ Pool wr p c k j ((upto k).drop j) ∧ Pool wr p2 c2 k 0 (upto k) ∧ Toks w.heap.size wr p v L ∧ Below w.heap.size w wr) (fun v i wr => k - (intOf i).toNat)
  case atStart => exact ⟨0, [], by omega, rfl, Lib.hid rfl, Lib.hid (by intro i x h; simp at h), hP2', hP3, Toks.nil _ _ _, hB'⟩
  case round =>
    clear hP2' hP3 hB'
    obtain ⟨j, L, hj, rfl, hL, hR, hP, hP', hT, hB⟩ := hrel
    by_cases hlt : j < k
    · rw [upto_drop k j hlt] at hP
      go_wp2_with fail
      refine (take_is _ _ _ _ _ _ _ hP (by omega)).mono ?_
      rintro e wt ⟨t, rfl, hQ, hTok, ht, hK⟩
      have hQ' := hP'.keep hK (by simp; exact ⟨nep, nepc⟩) (by simp; exact ⟨necp, necc⟩)
      have hT1 := hT.take hP hK
      have hnew : ∀ x ∈ L, x.1 ≠ t := fun x hx e => by have := (hT.tok x hx).1.lt; omega
      have hBt := hB.trans (hK.below hB.size (by simp; exact ⟨gp, gc⟩))
      have hbt : w.heap.size ≤ t := Nat.le_trans hB.size ht
      clear hP hP' hT hB hK
      unfold at0
      go_wp2_with fail
      refine (id_any _ _ _ _ _ hTok).mono ?_
      rintro e w' ⟨rfl, rfl⟩
      have E1 : IntKind.i64.wrap ((j : Int) + 1) = ((j + 1 : Nat) : Int) := by rw [IntWalk.i64_in _ (by omega)]; omega
      have hrow := hT1.row
      have hlen := hL.out
      go_wp2_with (at_builtin; refine wpList_append_own _ rfl _ _ 56 rfl w.heap.size 57 i0 (.pointer none) 1 8 Try.underlying56 hi hz0 hz1 hz2 rfl (by decide) _ _ _ rfl (hrow.alloc _) ⟨wt.heap.size, 0, none⟩ 1 1 [.pointer (some ⟨t, 0, none⟩)] rfl rfl (cell_one_new _ _ _) (by simp [Value.oneCell']) (by unfold maxLen; omega) (by omega) (by have := hBt.size; simp; omega) ?_; intro v' wa hown' hgrow _; obtain ⟨g', cap', rfl⟩ := own_succ hown')
      have hT2 := hT1.snoc hTok hbt hnew hown' hgrow
      rw [hlen] at hT2
      have hBa : Below w.heap.size w wa := (hBt.alloc hBt.size _).grown hgrow (by have := hBt.size; simp; omega) (own_ge hrow)
      have hPa := hQ.grown hrow hgrow
      have hPb := hQ'.grown hrow hgrow
      refine ⟨⟨j + 1, L ++ [(t, j + 1, true)], by omega, by go_num, Lib.hid (by simp [hlen]), Lib.hid (by rw [← hlen]; exact inRow_snoc hR.out t), ?_, hPb, hT2, hBa⟩, by simp [intOf]; omega⟩
      rw [show ((j + 1 : Nat) : Int) = (j : Int) + 1 by omega]
      exact hPa
    · obtain rfl : j = k := by omega
      rw [List.drop_of_length_le (by rw [upto_length]; exact Nat.le_refl _)] at hP
      go_wp2_with fail
      refine (take_none _ _ _ _ _ hP).mono ?_
      rintro e w' ⟨rfl, rfl⟩
      go_wp2_with fail
      refine (out_any _ _ _ _ _ _ hP).mono ?_
      rintro e w' ⟨rfl, rfl⟩
      obtain ⟨g, cap, rfl⟩ : ∃ g cap, u8 = .slice (some ⟨g, 0, none⟩) j cap := by
        have hlen := hL.out
        rcases hT.row.2 with ⟨_, h0⟩ | ⟨g, cap, cur, h, _⟩
        · omega
        · exact ⟨g, cap, by rw [h, hlen]⟩
      go_wp2_with fail
      go_loopw [74] (fun i wr => ∃ (m : Nat) (L : TL), m ≤ j ∧ i = .int .i64 m ∧ Hid (L.length = j) ∧ Hid (InRow m L) ∧ Pool wr p c j ((j : Int) - m) (upto m) ∧ Pool wr p2 c2 j 0 (upto j) ∧ Toks w.heap.size wr p (.slice (some ⟨g, 0, none⟩) j cap) L ∧ Below w.heap.size w wr) (fun i wr => j - (intOf i).toNat)
      case atStart => exact ⟨0, L, by omega, rfl, hL, hR, by simpa [upto] using hP, hP', hT, hB⟩
      case round =>
        clear hP hP' hT hB hL hR
        obtain ⟨m, L, hm, rfl, hL, hR, hP, hP', hT, hB⟩ := hrel
        by_cases hlt : m < j
        · obtain ⟨x, hx⟩ : ∃ x, L[m]? = some x := ⟨L[m]'(by rw [hL.out]; exact hlt), List.getElem?_eq_getElem _⟩
          obtain ⟨g1, cap1, hv, hcell⟩ := hT.cell m x hx
          rw [hL.out] at hv
          obtain ⟨rfl, rfl⟩ : g1 = g ∧ cap1 = cap := by simp at hv; exact ⟨hv.1.symm, hv.2.symm⟩
          have hxT := (hT.tok x (List.mem_of_getElem? hx)).1
          have hxR := hR.out m x hx
          simp only [Nat.le_refl, decide_true] at hxR
          rw [hxR] at hxT
          have HX := Lib.hid hx
          have HXR := Lib.hid hxR
          have hbx := (hT.tok x (List.mem_of_getElem? hx)).2
          clear hv hx hxR
          unfold at0 at hcell
          go_wp2_with fail
          refine (end_other _ _ _ _ _ _ _ _ _ (Ne.symm nep) hP' hP hxT).mono ?_
          rintro e w' ⟨rfl, rfl⟩
          go_wp2_with fail
          refine (live_any _ _ _ _ _ hxT).mono ?_
          rintro e w' ⟨rfl, rfl⟩
          go_wp2_with fail
          refine (end_ok _ _ _ _ _ _ _ _ hP hxT (by rw [upto_length]; exact hlt) (by omega)).mono ?_
          rintro e wt ⟨rfl, hQ, hxF, hs, hK⟩
          have hT2 := hT.end_ hP m x HX.out (by rw [HXR.out]; exact hxF) hK
          have hne := hxT.ne hP'
          have hQ' := hP'.keep hK (by simp; exact ⟨nep, nepc, Ne.symm hne.1⟩) (by simp; exact ⟨necp, necc, Ne.symm hne.2⟩)
          have hB2 := hB.trans (hK.below hB.size (by simp; exact ⟨gp, gc, hbx⟩))
          clear hs
          go_wp2_with fail
          refine (end_dead p c j 0 [] _ _ _ _ hxF).mono ?_
          rintro e w' ⟨rfl, rfl⟩
          go_wp2_with fail
          refine (live_any _ _ _ _ _ hxF).mono ?_
          rintro e w' ⟨rfl, rfl⟩
          have E1 : IntKind.i64.wrap ((m : Int) + 1) = ((m + 1 : Nat) : Int) := by rw [IntWalk.i64_in _ (by omega)]; omega
          go_wp2_with fail
          refine ⟨⟨m + 1, L.set m (x.1, x.2.1, false), by omega, by go_num, Lib.hid (by rw [List.length_set]; exact hL.out), Lib.hid (inRow_set hR.out x HX.out), ?_, hQ', hT2, hB2⟩, by simp [intOf]; omega⟩
          rw [upto_succ, show (j : Int) - ((m + 1 : Nat) : Int) = (j : Int) - m - 1 by omega]
          exact hQ
        · obtain rfl : m = j := by omega
          go_wp2_with fail
          refine (out_any _ _ _ _ _ _ hP).mono ?_
          rintro e w' ⟨rfl, rfl⟩
          go_wp2_with fail
          refine (out_any _ _ _ _ _ _ hP').mono ?_
          rintro e w' ⟨rfl, rfl⟩
          go_wp2_with fail
          go_ret
          exact ⟨rfl, hB⟩
theorem walk (n : Int) (w : World) (w0 : (Lit.int .u16 n).wf = true) :
    Calls Try.prog 9 #[.int .u16 n] w fun e w' => e = .returned (.bool true) ∧ Below w.heap.size w w' := by
  have hb := bounds_u16 w0
  exact walk' (1 + n % 300).toNat n w (by omega) (Lib.hid (by omega)) (by omega)

/-! ### THE ROW's STEP -/
set_option maxRecDepth 100000 in
theorem lifted (os : Os) (started : os.Started) (H : Type) (enc : TypeId × Value → H) :
    ReturnsInHanded {} Try.checked os 9 .any (Rows.tokenFullSpec.pre6 enc Try.prog Try.f9 Rows.tokenFullRow.domain false) (Rows.tokenFullSpec.post enc Try.prog Try.f9 false true false false) := by
  refine returnsInHanded_of_change (C := Try.checked) own started (by kernel_rfl) Try.func9
    (ChangeSpec.witness6 (enc := enc) (C := Try.checked) false ⟨#[], #[.int .u16 0], []⟩ 8 (by kernel_rfl) (by kernel_rfl) (by kernel_rfl) (by kernel_rfl)) ?_
  intro W base args ds gs before hval0 hW hcnd _
  have hval : ∀ (j : Nat) t v, Try.f9.params[j]? = some t → args[j]? = some v → Value.okWide Try.prog W .any base t v := hval0
  have hW' := hW
  obtain ⟨p, q, hA0, hV, rfl, hfz, hnd⟩ := hW
  have hA : DataW.TrodAll enc Try.prog W 0 (fun _ => true) true Try.f9.params.toList args.toList ds p := hA0
  rw [Try.params9] at hA hval
  obtain ⟨v0, vs0, d0, ds0, p0, q0, hargs, rfl, rfl, h0, r0⟩ := trodAll_cons hA
  obtain ⟨rfl, rfl, rfl⟩ := trodAll_nil r0
  obtain rfl : args = #[v0] := by cases args; simp_all
  obtain ⟨rfl, rfl⟩ := trodVars_none hV
  have k0 := h0
  have lt0 : ∀ x ∈ p0, x.block < W.heap.size := by obtain ⟨m, hm⟩ := k0; exact DataW.trod_lt m _ _ _ hm
  obtain ⟨a0, rfl, rfl, rfl, w0⟩ := open_int Try.underlying43 (hval 0 43 v0 rfl rfl) h0
  clear hA0 hval0
  refine (walk a0 W w0).mono fun e W' ⟨he, bel⟩ => ?_
  subst he
  exact ⟨_, rfl, _, _, _, [], _, [], hW', trodAll_mk1 (shut_bool Try.underlying4 _), (trodAll_cons_mk (Below.trod laidOut (by kernel_rfl) (of_decide_eq_true (by kernel_rfl)) k0 bel lt0) trodAll_mk0), rfl, bel.frame _, fun h => by cases h⟩

theorem over : Rows.tokenFullRow.holds Try.pinned (OpenSpec.ofChange Rows.tokenFullSpec) :=
  OpenClaim.holds_of_wide 9 Try.f9 rfl rfl rfl rfl rfl rfl rfl ⟨rfl, rfl, rfl, rfl, rfl⟩ rfl rfl rfl rfl rfl (by kernel_rfl) Try.func9 (by kernel_rfl)
    (of_decide_eq_true (by kernel_rfl)) (by unfold Func.isWrapper; first | (rw [if_pos (by decide +kernel)]; kernel_rfl) | (rw [if_neg (by decide +kernel)]; exact ⟨rfl, rfl⟩))
    (fun os started H enc _ => lifted os started H enc)

theorem proved : Rows.TokenFullSaid := over
#print axioms proved
end Go.Proofs.Ytfipifjlmepooaa.tokenFull
