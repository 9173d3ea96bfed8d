/- ChunkSets: for every set and two numbers the law returns true: all that is told of the set is the reference's. Conditions: none beyond the given statement. -/
import Derived.Test.YtehkmgmmelnceaaRows
import Derived.WalkKit
import Derived.ProofKit
import Derived.OpenShut
import Derived.ShutString
import Derived.ChangeOld
import Derived.Below
import Derived.Carry
import Derived.Lib.SmallJoins
import Derived.Test.YtehkmgmmelnceaaCf
namespace Go.Proofs.Ytehkmgmmelnceaa.chunkSets
open Go.ChangeShapes Go.WideShapes Go.ChangeAt Go.RowKit Go.Joins
open Go.ChangeMaps (open_string shut_string)
set_option linter.unusedVariables false
set_option linter.unusedSimpArgs false

theorem own : ownKnob Try.prog.godebug = none := by kernel_rfl
theorem laidOut : laidOutB Try.prog = true := by kernel_rfl
theorem cells24 : Try.prog.cellsOf 24 = 2 := by kernel_rfl

theorem hasI_els (b : Nat) (i : Int) : hasI (elsTo b 32) i = (decide (0 ≤ i ∧ i < 32) && b.testBit i.toNat) := by
  rw [Bool.eq_iff_iff]
  simp only [hasI, List.any_eq_true, beq_iff_eq, Bool.and_eq_true, decide_eq_true_eq]
  constructor
  · rintro ⟨x, hx, rfl⟩
    have := (els_mem b 32 x).1 hx
    exact ⟨by omega, by simpa using this.2⟩
  · rintro ⟨h1, h2⟩
    exact ⟨i.toNat, (els_mem b 32 _).2 ⟨by omega, h2⟩, by omega⟩
theorem has_els (b : Nat) (i : Int) (w : World) (h1 : b < 4294967296) :
    Calls Try.prog 23 #[.int .u32 b, .int .i64 i] w fun e w' => e = .returned (.bool (hasI (elsTo b 32) i)) ∧ w = w' := by
  have e : (b &&& onl i != 0) = hasI (elsTo b 32) i := by
    rw [hasI_els]
    by_cases h : 0 ≤ i ∧ i < 32
    · obtain ⟨n, rfl⟩ := Int.eq_ofNat_of_zero_le h.1
      rw [has_bit b n (by omega)]
      simp; intro; omega
    · have : onl i = 0 := by unfold onl; rw [if_neg h]
      rw [this]; simp [h]
  rw [← e]
  exact has_any b i w h1
theorem count_els (b : Nat) (w : World) (h1 : b < 4294967296) :
    Calls Try.prog 24 #[.int .u32 b] w fun e w' => e = .returned (.int .i64 (elsTo b 32).length) ∧ ∃ n, w' = w.drewN n := by
  rw [← cnt_els]; exact count_any b w h1
theorem hasI_nat (b t : Nat) (ht : t < 32) : hasI (elsTo b 32) t = b.testBit t := by
  rw [hasI_els]; simp; intro; omega

set_option maxRecDepth 100000 in
set_option maxHeartbeats 2000000 in
theorem walk' (b : Nat) (i k : Int) (w : World) (hb : b < 4294967296) :
    Calls Try.prog 8 #[.int .u32 b, .int .i64 i, .int .i64 k] w fun e w' => e = .returned (.bool true) ∧ Below w.heap.size w w' := by
  have hle := elsTo_le b 32
  by_cases hk : 0 ≤ k ∧ k < (elsTo b 32).length
  · obtain ⟨n, rfl⟩ := Int.eq_ofNat_of_zero_le hk.1
    have hn : n < (elsTo b 32).length := by omega
    have hN := Lib.hid (show nthV b n = some ((elsTo b 32)[n]?.getD 0) by unfold nthV; rw [if_pos (by omega), Int.toNat_natCast, List.getElem?_eq_getElem hn]; rfl)
    clear hk
    go_enter Try.func8, Try.ntmps8
    go_wp2_with (go_at_call 17; refine (awake2 _).mono ?_; rintro e w' ⟨rfl, nq, rfl⟩)
    refine (list_any b _ hb).mono ?_
    rintro e w1 ⟨v, rfl, hown, hB1⟩
    obtain ⟨A, c, rfl, hR1⟩ := RdA.of_own hown
    have HR1 := Lib.hid hR1
    have hW1 : Below w.heap.size w w1 := (cbelow_drewN (Below.refl _ w) nq).trans hB1
    clear hown hR1 hB1
    go_wp2_with fail
    refine (contains_any A c _ i _ HR1.out (by omega)).mono ?_
    rintro e w' ⟨rfl, rfl⟩
    go_wp2_with fail
    refine (nth_any b n _ hb).mono ?_
    rintro e w2 ⟨rfl, hB2⟩
    rw [hN.out]
    have HR2 := Lib.hid (HR1.out.below hB2)
    have hW2 := hW1.trans (hB2.mono hW1.size)
    clear HR1 hW1 hB2
    obtain ⟨y, hy⟩ : ∃ y, (elsTo b 32)[n]?.getD 0 = y := ⟨_, rfl⟩
    obtain ⟨g, hA, hc⟩ := HR2.out n hn
    rw [hy] at hc ⊢
    clear hy
    subst hA
    go_wp2_with fail
    refine (has_els b i _ hb).mono ?_
    rintro e w' ⟨rfl, rfl⟩
    go_wp2_with fail
    refine (count_els b _ hb).mono ?_
    rintro e w' ⟨rfl, n1, rfl⟩
    go_wp2_with fail
    refine (rank_any b i _ hb).mono ?_
    rintro e w' ⟨rfl, n2, rfl⟩
    go_wp2_with fail
    refine (refRank_any b i _ hb).mono ?_
    rintro e w3 ⟨rfl, hB3⟩
    have hV3 : Below w2.heap.size w2 w3 := (cbelow_drewN (Below.refl _ w2) (n1 + n2)).trans hB3
    have HR3 := Lib.hid (HR2.out.below hV3)
    have hW3 := hW2.trans (hV3.mono hW2.size)
    have hc3 := (hV3.cell (p := ⟨g, n, none⟩) (World.block_lt_of_cell? w2 _ hc)).trans hc
    clear hc
    clear HR2 hW2 hV3 hB3
    go_wp2_with fail
    refine (all_any b _).mono ?_
    rintro e w' ⟨rfl, rfl⟩
    go_wp2_with fail
    refine (collect_any b w3.heap.size _ hb (CBlk.new w3 44 _)).mono ?_
    rintro e w4 ⟨v', rfl, hown', hB4⟩
    obtain ⟨A', c', rfl, hR'⟩ := RdA.of_own hown'
    have hV4 : Below w3.heap.size w3 w4 := ((Below.refl _ w3).alloc (Nat.le_refl _) _).trans (hB4.mono (by simp))
    have HR4 := Lib.hid (HR3.out.below hV4)
    have HR5 := Lib.hid hR'
    have hW4 := hW3.trans (hV4.mono hW3.size)
    clear HR3 hW3 hV4 hB4 hown' hR'
    go_wp2_with fail
    refine (equal_any A' (some ⟨g, 0, none⟩) c' c _ _ HR5.out HR4.out (by omega)).mono ?_
    rintro e w' ⟨rfl, n3, rfl⟩
    go_wp2_with fail
    refine (of_any (some ⟨g, 0, none⟩) c _ b (w4.drewN n3) HR4.out (by omega) hb (fun t ht => hasI_nat b t ht)).mono ?_
    rintro e w' ⟨rfl, rfl⟩
    go_wp2
    go_ret
    exact ⟨rfl, cbelow_drewN hW4 n3⟩
  · have hN := Lib.hid (show nthV b k = none by
      unfold nthV
      split
      · rw [List.getElem?_eq_none (by omega)]
      · rfl)
    by_cases h0 : 0 ≤ k
    · have hk2 : ((elsTo b 32).length : Int) ≤ k := by omega
      have dk : decide (k < ((elsTo b 32).length : Int)) = false := by simp; omega
      clear hk
      go_enter Try.func8, Try.ntmps8
      go_wp2_with (go_at_call 17; refine (awake2 _).mono ?_; rintro e w' ⟨rfl, nq, rfl⟩)
      refine (list_any b _ hb).mono ?_
      rintro e w1 ⟨v, rfl, hown, hB1⟩
      obtain ⟨A, c, rfl, hR1⟩ := RdA.of_own hown
      have HR1 := Lib.hid hR1
      have hW1 : Below w.heap.size w w1 := (cbelow_drewN (Below.refl _ w) nq).trans hB1
      clear hown hR1 hB1
      go_wp2_with fail
      refine (contains_any A c _ i _ HR1.out (by omega)).mono ?_
      rintro e w' ⟨rfl, rfl⟩
      go_wp2_with fail
      refine (nth_any b k _ hb).mono ?_
      rintro e w2 ⟨rfl, hB2⟩
      rw [hN.out]
      have HR2 := Lib.hid (HR1.out.below hB2)
      have hW2 := hW1.trans (hB2.mono hW1.size)
      clear HR1 hW1 hB2
      go_wp2_with fail
      refine (has_els b i _ hb).mono ?_
      rintro e w' ⟨rfl, rfl⟩
      go_wp2_with fail
      refine (count_els b _ hb).mono ?_
      rintro e w' ⟨rfl, n1, rfl⟩
      go_wp2_with fail
      refine (rank_any b i _ hb).mono ?_
      rintro e w' ⟨rfl, n2, rfl⟩
      go_wp2_with fail
      refine (refRank_any b i _ hb).mono ?_
      rintro e w3 ⟨rfl, hB3⟩
      have hV3 : Below w2.heap.size w2 w3 := (cbelow_drewN (Below.refl _ w2) (n1 + n2)).trans hB3
      have HR3 := Lib.hid (HR2.out.below hV3)
      have hW3 := hW2.trans (hV3.mono hW2.size)
      clear HR2 hW2 hV3 hB3
      go_wp2_with fail
      refine (all_any b _).mono ?_
      rintro e w' ⟨rfl, rfl⟩
      go_wp2_with fail
      refine (collect_any b w3.heap.size _ hb (CBlk.new w3 44 _)).mono ?_
      rintro e w4 ⟨v', rfl, hown', hB4⟩
      obtain ⟨A', c', rfl, hR'⟩ := RdA.of_own hown'
      have hV4 : Below w3.heap.size w3 w4 := ((Below.refl _ w3).alloc (Nat.le_refl _) _).trans (hB4.mono (by simp))
      have HR4 := Lib.hid (HR3.out.below hV4)
      have HR5 := Lib.hid hR'
      have hW4 := hW3.trans (hV4.mono hW3.size)
      clear HR3 hW3 hV4 hB4 hown' hR'
      go_wp2_with fail
      refine (equal_any A' A c' c _ _ HR5.out HR4.out (by omega)).mono ?_
      rintro e w' ⟨rfl, n3, rfl⟩
      go_wp2_with fail
      refine (of_any A c _ b (w4.drewN n3) HR4.out (by omega) hb (fun t ht => hasI_nat b t ht)).mono ?_
      rintro e w' ⟨rfl, rfl⟩
      go_wp2
      go_ret
      exact ⟨rfl, cbelow_drewN hW4 n3⟩
    · clear hk
      go_enter Try.func8, Try.ntmps8
      go_wp2_with (go_at_call 17; refine (awake2 _).mono ?_; rintro e w' ⟨rfl, nq, rfl⟩)
      refine (list_any b _ hb).mono ?_
      rintro e w1 ⟨v, rfl, hown, hB1⟩
      obtain ⟨A, c, rfl, hR1⟩ := RdA.of_own hown
      have HR1 := Lib.hid hR1
      have hW1 : Below w.heap.size w w1 := (cbelow_drewN (Below.refl _ w) nq).trans hB1
      clear hown hR1 hB1
      go_wp2_with fail
      refine (contains_any A c _ i _ HR1.out (by omega)).mono ?_
      rintro e w' ⟨rfl, rfl⟩
      go_wp2_with fail
      refine (nth_any b k _ hb).mono ?_
      rintro e w2 ⟨rfl, hB2⟩
      rw [hN.out]
      have HR2 := Lib.hid (HR1.out.below hB2)
      have hW2 := hW1.trans (hB2.mono hW1.size)
      clear HR1 hW1 hB2
      go_wp2_with fail
      refine (has_els b i _ hb).mono ?_
      rintro e w' ⟨rfl, rfl⟩
      go_wp2_with fail
      refine (count_els b _ hb).mono ?_
      rintro e w' ⟨rfl, n1, rfl⟩
      go_wp2_with fail
      refine (rank_any b i _ hb).mono ?_
      rintro e w' ⟨rfl, n2, rfl⟩
      go_wp2_with fail
      refine (refRank_any b i _ hb).mono ?_
      rintro e w3 ⟨rfl, hB3⟩
      have hV3 : Below w2.heap.size w2 w3 := (cbelow_drewN (Below.refl _ w2) (n1 + n2)).trans hB3
      have HR3 := Lib.hid (HR2.out.below hV3)
      have hW3 := hW2.trans (hV3.mono hW2.size)
      clear HR2 hW2 hV3 hB3
      go_wp2_with fail
      refine (all_any b _).mono ?_
      rintro e w' ⟨rfl, rfl⟩
      go_wp2_with fail
      refine (collect_any b w3.heap.size _ hb (CBlk.new w3 44 _)).mono ?_
      rintro e w4 ⟨v', rfl, hown', hB4⟩
      obtain ⟨A', c', rfl, hR'⟩ := RdA.of_own hown'
      have hV4 : Below w3.heap.size w3 w4 := ((Below.refl _ w3).alloc (Nat.le_refl _) _).trans (hB4.mono (by simp))
      have HR4 := Lib.hid (HR3.out.below hV4)
      have HR5 := Lib.hid hR'
      have hW4 := hW3.trans (hV4.mono hW3.size)
      clear HR3 hW3 hV4 hB4 hown' hR'
      go_wp2_with fail
      refine (equal_any A' A c' c _ _ HR5.out HR4.out (by omega)).mono ?_
      rintro e w' ⟨rfl, n3, rfl⟩
      go_wp2_with fail
      refine (of_any A c _ b (w4.drewN n3) HR4.out (by omega) hb (fun t ht => hasI_nat b t ht)).mono ?_
      rintro e w' ⟨rfl, rfl⟩
      go_wp2
      go_ret
      exact ⟨rfl, cbelow_drewN hW4 n3⟩
theorem walk (a0 a1 a2 : Int) (w : World) (w0 : (Lit.int .u32 a0).wf = true) (w1 : (Lit.int .i64 a1).wf = true) (w2 : (Lit.int .i64 a2).wf = true) :
    Calls Try.prog 8 #[.int .u32 a0, .int .i64 a1, .int .i64 a2] w fun e w' => e = .returned (.bool true) ∧ Below w.heap.size w w' := by
  have hb := bounds_u32 w0
  obtain ⟨n, rfl⟩ := Int.eq_ofNat_of_zero_le hb.1
  exact walk' n a1 a2 w (by omega)

/-! ### THE ROW's STEP -/
set_option maxRecDepth 100000 in
theorem lifted (os : Os) (started : os.Started) (H : Type) (enc : TypeId × Value → H) :
    ReturnsInHanded {} Try.checked os 8 .any (Rows.chunkSetsSpec.pre6 enc Try.prog Try.f8 Rows.chunkSetsRow.domain false) (Rows.chunkSetsSpec.post enc Try.prog Try.f8 false true false false) := by
  refine returnsInHanded_of_change (C := Try.checked) own started (by kernel_rfl) Try.func8
    (ChangeSpec.witness6 (enc := enc) (C := Try.checked) false ⟨#[], #[.int .u32 0, .int .i64 0, .int .i64 0], []⟩ 8 (by kernel_rfl) (by kernel_rfl) (by kernel_rfl) (by kernel_rfl)) ?_
  intro W base args ds gs before hval0 hW hcnd _
  have hval : ∀ (j : Nat) t v, Try.f8.params[j]? = some t → args[j]? = some v → Value.okWide Try.prog W .any base t v := hval0
  have hW' := hW
  obtain ⟨p, q, hA0, hV, rfl, hfz, hnd⟩ := hW
  have hA : DataW.TrodAll enc Try.prog W 0 (fun _ => true) true Try.f8.params.toList args.toList ds p := hA0
  rw [Try.params8] at hA hval
  obtain ⟨v0, vs0, d0, ds0, p0, q0, hargs, rfl, rfl, h0, r0⟩ := trodAll_cons hA
  obtain ⟨v1, vs1, d1, ds1, p1, q1, rfl, rfl, rfl, h1, r1⟩ := trodAll_cons r0
  obtain ⟨v2, vs2, d2, ds2, p2, q2, rfl, rfl, rfl, h2, r2⟩ := trodAll_cons r1
  obtain ⟨rfl, rfl, rfl⟩ := trodAll_nil r2
  obtain rfl : args = #[v0, v1, v2] := by cases args; simp_all
  obtain ⟨rfl, rfl⟩ := trodVars_none hV
  have k0 := h0
  have lt0 : ∀ x ∈ p0, x.block < W.heap.size := by obtain ⟨m, hm⟩ := k0; exact DataW.trod_lt m _ _ _ hm
  obtain ⟨a0, rfl, rfl, rfl, w0⟩ := open_int Try.underlying43 (hval 0 43 v0 rfl rfl) h0
  have k1 := h1
  have lt1 : ∀ x ∈ p1, x.block < W.heap.size := by obtain ⟨m, hm⟩ := k1; exact DataW.trod_lt m _ _ _ hm
  obtain ⟨a1, rfl, rfl, rfl, w1⟩ := open_int Try.underlying3 (hval 1 3 v1 rfl rfl) h1
  have k2 := h2
  have lt2 : ∀ x ∈ p2, x.block < W.heap.size := by obtain ⟨m, hm⟩ := k2; exact DataW.trod_lt m _ _ _ hm
  obtain ⟨a2, rfl, rfl, rfl, w2⟩ := open_int Try.underlying3 (hval 2 3 v2 rfl rfl) h2
  clear hA0 hval0
  refine (walk a0 a1 a2 W w0 w1 w2).mono fun e W' ⟨he, bel⟩ => ?_
  subst he
  exact ⟨_, rfl, _, _, _, [], _, [], hW', trodAll_mk1 (shut_bool Try.underlying4 _), (trodAll_cons_mk (Below.trod laidOut (by kernel_rfl) (of_decide_eq_true (by kernel_rfl)) k0 bel lt0) (trodAll_cons_mk (Below.trod laidOut (by kernel_rfl) (of_decide_eq_true (by kernel_rfl)) k1 bel lt1) (trodAll_cons_mk (Below.trod laidOut (by kernel_rfl) (of_decide_eq_true (by kernel_rfl)) k2 bel lt2) trodAll_mk0))), rfl, bel.frame _, fun h => by cases h⟩

theorem over : Rows.chunkSetsRow.holds Try.pinned (OpenSpec.ofChange Rows.chunkSetsSpec) :=
  OpenClaim.holds_of_wide 8 Try.f8 rfl rfl rfl rfl rfl rfl rfl ⟨rfl, rfl, rfl, rfl, rfl⟩ rfl rfl rfl rfl rfl (by kernel_rfl) Try.func8 (by kernel_rfl)
    (of_decide_eq_true (by kernel_rfl)) (by unfold Func.isWrapper; first | (rw [if_pos (by decide +kernel)]; kernel_rfl) | (rw [if_neg (by decide +kernel)]; exact ⟨rfl, rfl⟩))
    (fun os started H enc _ => lifted os started H enc)

theorem proved : Rows.ChunkSetsSaid := over
#print axioms proved
end Go.Proofs.Ytehkmgmmelnceaa.chunkSets
