/- Contracts of the reference's Of, of Equal and of Collect. -/
import Derived.Test.YtehkmgmmelnceaaCe
namespace Go.Proofs.Ytehkmgmmelnceaa
open Go.RowKit Go.Shelf
set_option linter.unusedVariables false
set_option linter.unusedSimpArgs false

theorem of_step (B j : Nat) (hB : B < 4294967296) (hj : j < 32) (t : Bool) (ht : B.testBit j = t) : B / 2 ^ (j + 1) * 2 + (if t then 1 else 0) = B / 2 ^ j ∧ B / 2 ^ (j + 1) * 2 + 1 < 4294967296 := by
  have h1 : B / 2 ^ (j + 1) = B / 2 ^ j / 2 := by rw [Nat.div_div_eq_div_mul, Nat.pow_succ]
  have h2 : B / 2 ^ j ≤ B := Nat.div_le_self _ _
  rw [Nat.testBit_eq_decide_div_mod_eq] at ht
  rw [h1]
  generalize B / 2 ^ j = x at *
  cases t
  · simp at ht; simp; omega
  · simp at ht; simp; omega

set_option maxHeartbeats 1000000 in
theorem of_any (A : Option Addr) (c : Nat) (xs : List Nat) (B : Nat) (w : World) (hR : RdA w A xs) (hl : xs.length ≤ 1000) (hB : B < 4294967296) (hX : ∀ t : Nat, t < 32 → hasI xs t = B.testBit t) :
    Calls Try.prog 30 #[.slice A xs.length c] w fun e w' => e = .returned (.int .u32 B) ∧ w = w' := by
  have HR := Lib.hid hR
  have HX := Lib.hid hX
  clear hR hX
  go_enter Try.func30, Try.ntmps30
  go_wp2_with fail
  go_loop [3, 4] (fun m i => ∃ j : Nat, j ≤ 32 ∧ i = .int .i64 ((j : Int) - 1) ∧ m = .int .u32 (B / 2 ^ j : Nat)) (fun _ i => (intOf i + 1).toNat)
  case atStart => exact ⟨32, by omega, rfl, by rw [Nat.div_eq_of_lt (by omega)]; rfl⟩
  case round =>
    obtain ⟨j, hj, rfl, rfl⟩ := hrel
    by_cases hj0 : 0 < j
    · obtain ⟨i, rfl⟩ : ∃ i, j = i + 1 := ⟨j - 1, by omega⟩
      rw [show ((i + 1 : Nat) : Int) - 1 = i by omega]
      have ST := Lib.hid (of_step B i hB (by omega) _ rfl)
      obtain ⟨p, hp⟩ : ∃ p, B / 2 ^ (i + 1) = p := ⟨_, rfl⟩
      have hp2 := (of_step B i hB (by omega) _ rfl).2
      rw [hp] at ST hp2 ⊢
      clear hp
      go_wp2_with fail
      go_loop [3, 15] (fun m t => ∃ k : Nat, k ≤ xs.length ∧ t = .int .i64 k ∧ m = .int .u32 ((p : Int) * 2) ∧ Hid (hasI (xs.take k) i = false)) (fun _ t => xs.length - (intOf t).toNat)
      case atStart => exact ⟨0, Nat.zero_le _, rfl, rfl, Lib.hid (by simp [hasI])⟩
      case round =>
        obtain ⟨k, hk, rfl, rfl, hno⟩ := hrel
        by_cases hlt : k < xs.length
        · obtain ⟨g, rfl, hc⟩ := HR.out k hlt
          have hs := Lib.hid (hasI_take xs i k hlt)
          obtain ⟨y, hy⟩ : ∃ y, xs[k]?.getD 0 = y := ⟨_, rfl⟩
          rw [hy] at hc hs
          clear hy
          by_cases he : y = i
          · have d : ((y : Int) == (i : Int)) = true := by rw [beq_iff_eq]; omega
            have P : Hid (p * 2 + 1 = B / 2 ^ i) := Lib.hid (by
              have h1 := hasI_of_take xs i (k + 1) (by rw [hs.out, he]; simp)
              have h2 := HX.out i (by omega)
              have h3 := ST.out.1
              rw [← h2, h1] at h3
              exact h3)
            clear he hs hno
            go_wp2
            exact ⟨⟨i, by omega, rfl, by rw [← P.out]; go_num⟩, by simp [intOf]⟩
          · have d : ((y : Int) == (i : Int)) = false := by rw [beq_eq_false_iff_ne]; omega
            have P : Hid (hasI (xs.take (k + 1)) i = false) := Lib.hid (by
              rw [hs.out, hno.out, show (((i : Nat) : Int) == (y : Int)) = false by rw [beq_eq_false_iff_ne]; omega]; rfl)
            clear he hs hno
            go_wp2
            go_round
            case rel => exact ⟨k + 1, by omega, by go_num, rfl, P⟩
            case measure => simp [intOf]; omega
        · have P : Hid (p * 2 = B / 2 ^ i) := Lib.hid (by
            have h1 := hno.out
            rw [List.take_of_length_le (by omega)] at h1
            have h2 := HX.out i (by omega)
            have h3 := ST.out.1
            rw [← h2, h1] at h3
            exact h3)
          clear hno
          go_wp2
          exact ⟨⟨i, by omega, rfl, by rw [← P.out]; go_num⟩, by simp [intOf]⟩
    · obtain rfl : j = 0 := by omega
      go_wp2
      go_ret
      exact ⟨ret_int (by simp), rfl⟩

set_option maxHeartbeats 1000000 in
theorem equal_any (A A' : Option Addr) (c c' : Nat) (xs : List Nat) (w : World) (hR : RdA w A xs) (hR' : RdA w A' xs) (hl : xs.length ≤ 1000) :
    Calls Try.prog 27 #[.slice A xs.length c, .slice A' xs.length c'] w fun e w' => e = .returned (.bool true) ∧ ∃ nq, w' = w.drewN nq := by
  have HR := Lib.hid hR
  have HR' := Lib.hid hR'
  clear hR hR'
  go_enter Try.func27, Try.ntmps27
  go_wp2_with fail
  go_loopw [13] (fun t wr => ∃ k nq : Nat, k ≤ xs.length ∧ t = .int .i64 k ∧ wr = w.drewN nq) (fun t wr => xs.length - (intOf t).toNat)
  case atStart => exact ⟨0, 0, Nat.zero_le _, rfl, rfl⟩
  case round =>
    obtain ⟨k, nq, hk, rfl, rfl⟩ := hrel
    by_cases hlt : k < xs.length
    · obtain ⟨g, rfl, hc⟩ := HR.out k hlt
      obtain ⟨g', rfl, hc'⟩ := HR'.out k hlt
      obtain ⟨y, hy⟩ : ∃ y, xs[k]?.getD 0 = y := ⟨_, rfl⟩
      rw [hy] at hc hc'
      clear hy
      have i0 : (0 : Int) ≤ (k : Int) := by omega
      have i1 : (k : Int) < (xs.length : Int) := by omega
      go_wp2_with fail
      go_quiet (fail)
      go_wp2
      exact ⟨⟨k + 1, _, by omega, by go_num, rfl⟩, by simp [intOf]; omega⟩
    · go_wp2
      go_ret
      exact ⟨rfl, nq, rfl⟩

attribute [local go_sem] Oper.semAt_some

set_option maxRecDepth 100000 in
set_option maxHeartbeats 2000000 in
theorem appendSeq_in (b Bn : Nat) (w : World) (hb : b < 4294967296) (hBn : CBlk w Bn 44 #[.int .u32 b]) :
    CallsIn Fence.wide 5 Try.prog 42 #[.slice none 0 0, .func (.func 43) #[] #[.pointer (some ⟨Bn, 0, none⟩)]] w fun e W' => ∃ v, e = .returned v ∧ W'.ownsRow w.heap.size 3 1 v (elsTo b 32).length (vals (elsTo b 32)) ∧ Below w.heap.size w W' := by
  obtain ⟨i0, hi, hz0, hz1, hz2⟩ := info_parts info3
  refine callsIn_of_wp_marks Try.func42 rfl trivial ?_ rfl
  simp only [Try.ntmps42, List.size_toArray, List.length_cons, List.length_nil, Nat.reduceAdd, Nat.reduceSub, Array.replicate_succ, Array.replicate_zero, List.push_toArray, List.append_toArray, List.nil_append, List.cons_append]
  gi_wp2
  have bO := Boxed.new w 45 (.slice none 0 0)
  have hBlt := hBn.lt
  have hB0 : Below w.heap.size w (w.alloc (.cells #[.slice none 0 0] 45)) := (Below.refl _ w).alloc (Nat.le_refl _) _
  have hle := elsTo_le b 32
  refine wpIn_rangeFunc_ownG rfl (by decide) (gf := 43) (lb := #[.pointer (some ⟨Bn, 0, none⟩)]) rfl trivial (enters_of Try.func43 (by kernel_rfl) rfl)
    (all_stops (5 - 1) Bn b (by decide) hb _ (hBn.alloc _)) KpB_t (KpB_b (by simp; omega)) (Below.refl _ _) (fun _ => rfl)
    (fun pre W => (∃ v, Boxed W w.heap.size 45 v ∧ W.ownsRow w.heap.size 3 1 v pre.length (vals pre) ∧ True) ∧ Below w.heap.size w W)
    (fun _ _ _ => False)
    (OwnFrom.and (Own.from (holdsRow_own w.heap.size w.heap.size 45 3 1 (fun pre => pre.length) (fun pre => vals pre) (fun pre v => True)) _) (ownFrom_below (Nat.le_refl _) (by simp)))
    (fun _ _ _ _ _ hs _ _ => hs)
    ⟨⟨_, bO, World.ownsRow_nil _ _ _ _, trivial⟩, hB0⟩
    (fun x => { tmps := #[.slice none 0 0, .func (.func 43) #[] #[.pointer (some ⟨Bn, 0, none⟩)], .pointer (some ⟨w.heap.size, 0, none⟩), undef, .slice none 0 0, .int .i64 x, .func (.func 43) #[] #[.pointer (some ⟨Bn, 0, none⟩)], .int .i64 x, undef, undef, undef, undef, undef], defers := [] }) ?assign ?body ?done ?stop
  case assign =>
    intro l x W K hK
    gi_wp2
    exact hK
  case body =>
    rintro l pre x W ⟨⟨v, hv, hrow, _⟩, hB⟩ hlt
    have hc := hv.cell
    gi_wp2_with (gi_at_builtin; refine wpListIn_append_own _ rfl _ _ 45 rfl w.heap.size 3 i0 (.int .i64 0) 1 8 Try.underlying45 hi hz0 hz1 hz2 rfl (by decide) _ _ _ rfl (hrow.alloc _) ⟨W.heap.size, 0, none⟩ 1 1 [.int .i64 x] rfl rfl (cell_one_new _ _ _) (by simp [Value.oneCell']) (by unfold maxLen; omega) (by omega) (by have := hB.size; simp; omega) ?_; intro v' w1 hown' hgrow _; obtain ⟨g', cap', rfl⟩ := ownsRow_succ hown'; obtain ⟨hv1, hv2, hr2, hk2, hb2⟩ := hv.appended (by decide) hrow hB.size (Nat.le_refl _) hown' hgrow; have hc1 := hv1.cell; have hf1 := hv1.frozen)
    exact ⟨hk2.from _, hb2.block Bn hBlt, ⟨_, hv2, by rw [vals_snoc, List.length_append]; exact hr2, trivial⟩, hB.trans hb2⟩
  case done =>
    rintro D ys W hD rfl ⟨⟨v, hv, hrow, _⟩, hB⟩ hK
    have hc := hv.cell
    gi_wp2
    refine ⟨by simp, .inl ⟨_, _, rfl, run_takeDeferred hK, ?_⟩⟩
    exact ⟨_, results_tmp rfl _ _ _, v, rfl, ownsRow_putObj hrow _ hK rfl, hB.trans (belowK_b (w := w) (Nat.le_refl _) W D _ _ (by simp at hD; omega) hK rfl rfl)⟩
  case stop =>
    rintro D c pre W _ _ h _
    exact h.elim

set_option maxHeartbeats 1000000 in
theorem collect_any (b Bn : Nat) (w : World) (hb : b < 4294967296) (hBn : CBlk w Bn 44 #[.int .u32 b]) :
    Calls Try.prog 28 #[.func (.func 43) #[] #[.pointer (some ⟨Bn, 0, none⟩)]] w fun e W' => ∃ v, e = .returned v ∧ W'.ownsRow w.heap.size 3 1 v (elsTo b 32).length (vals (elsTo b 32)) ∧ Below w.heap.size w W' := by
  go_enter Try.func28, Try.ntmps28
  go_wp2_with fail
  refine (callsIn_wide.1 (appendSeq_in b Bn _ hb hBn)).mono ?_
  rintro e w1 ⟨v, rfl, hown, hB⟩
  go_wp2
  go_ret
  exact ⟨v, rfl, hown, hB⟩
end Go.Proofs.Ytehkmgmmelnceaa
