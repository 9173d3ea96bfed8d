/- ChunkLevels: for every hash and level the law returns true: the levels tell the reference's fives, and put together again they are the hash. Conditions: none beyond the given statement. -/
import Derived.Test.YtehkmgmmelnceaaRows
import Derived.WalkKit
import Derived.ProofKit
import Derived.OpenShut
import Derived.Laws.Bits64b
import Derived.Test.YtehkmgmmelnceaaCa
namespace Go.Proofs.Ytehkmgmmelnceaa.chunkLevels
open Go.ChangeShapes Go.WideShapes Go.ChangeAt Go.RowKit
set_option linter.unusedVariables false

theorem own : ownKnob Try.prog.godebug = none := by kernel_rfl
theorem grown_drewN {W w' : World} (h : Grown W w') (n : Nat) : Grown W (w'.drewN n) := h
theorem at_lt (h lv : Int) : 0 ≤ atZ h lv ∧ atZ h lv < 32 := by
  unfold atZ; split <;> omega
theorem top_lt (h : Int) (h0 : 0 ≤ h) (h1 : h < 18446744073709551616) : atZ h 12 < 16 := by
  have e : atZ h 12 = h / 1152921504606846976 % 32 := by simp [atZ]
  rw [e]; omega
theorem join (h : Int) (k : Nat) (h0 : 0 ≤ h) (h1 : h < 18446744073709551616) (hk : k < 13) :
    bits .or .u64 (IntKind.u64.wrap (h / 32 ^ (k + 1) * 32)) (atZ h k) = h / 32 ^ k := by
  have e : atZ h k = h / 32 ^ k % 32 := by simp [atZ]; omega
  have hd := div32 h k
  have hn := div32_nonneg h k h0
  have hl := div32_le h k h0
  rw [e, ← hd, IntKind.wrap_u64]
  generalize h / 32 ^ k = x at *
  obtain ⟨n, rfl⟩ := Int.eq_ofNat_of_zero_le hn
  have hb := bits_or_u64_nat (n / 32 * 32) (n % 32) (by omega) (by omega)
  have e2 : n / 32 * 32 ||| n % 32 = n := by
    rw [Nat.mul_comm, ← Nat.two_pow_add_eq_or_of_lt (i := 5) (by omega)]; omega
  rw [e2] at hb
  rw [show ((n : Int) / 32 * 32) % 18446744073709551616 = ((n / 32 * 32 : Nat) : Int) by omega, show (n : Int) % 32 = ((n % 32 : Nat) : Int) by omega]
  exact hb

set_option maxHeartbeats 400000 in
theorem walk (a0 : Int) (a1 : Int) (w0 : (Lit.int .u64 a0).wf = true) (w1 : (Lit.int .i64 a1).wf = true) (w : World) :
    Calls Try.prog 7 #[.int .u64 a0, .int .i64 a1] w fun e w' => e = .returned (.bool true) ∧ Grown w w' := by
  obtain ⟨b0, b1⟩ : 0 ≤ a0 ∧ a0 < 18446744073709551616 := by have := bounds_u64 w0; omega
  clear w0 w1
  have A0 := Lib.hid (show atZ a0 (-1) = 0 by simp [atZ])
  have A1 := Lib.hid (show atZ a0 13 = 0 by simp [atZ])
  have A2 := top_lt a0 b0 b1
  go_enter Try.func7, Try.ntmps7
  go_wp2_with (first | (go_at_call 17; refine (awake2 _).mono ?_; rintro e w' ⟨rfl, nq, rfl⟩) | (go_at_call 18; refine (at_any _ _ _ b0 b1).mono ?_; rintro e w' ⟨rfl, rfl⟩) | (go_at_call 19; refine (refAt_any _ _ _ b0 b1).mono ?_; rintro e w' ⟨rfl, rfl⟩))
  go_loop [5, 6] (fun x i => ∃ k : Nat, k ≤ 13 ∧ i = .int .i64 ((k : Int) - 1) ∧ x = .int .u64 (a0 / 32 ^ k)) (fun _ i => (intOf i + 1).toNat)
  case atStart => exact ⟨13, by omega, rfl, by simp; omega⟩
  case round =>
    obtain ⟨k, hk, rfl, rfl⟩ := hrel
    by_cases hlt : 0 < k
    · obtain ⟨j, rfl⟩ : ∃ j, k = j + 1 := ⟨k - 1, by omega⟩
      have J := Lib.hid (join a0 j b0 b1 (by omega))
      have hn := div32_nonneg a0 (j + 1) b0
      have L := at_lt a0 j
      rw [show ((j + 1 : Nat) : Int) - 1 = j by omega]
      go_wp2_with ((go_at_call 18; refine (at_any _ _ _ b0 b1).mono ?_; rintro e w' ⟨rfl, rfl⟩))
      go_round
      case rel => exact ⟨j, by omega, rfl, by rw [J.out]⟩
      case measure => simp [intOf]
    · obtain rfl : k = 0 := by omega
      go_wp2_with fail
      refine (at_any _ _ _ b0 b1).mono ?_
      rintro e w' ⟨rfl, rfl⟩
      rw [A0.out]
      go_wp2_with fail
      refine (at_any _ _ _ b0 b1).mono ?_
      rintro e w' ⟨rfl, rfl⟩
      rw [A1.out]
      go_wp2_with fail
      refine (at_any _ _ _ b0 b1).mono ?_
      rintro e w' ⟨rfl, rfl⟩
      go_wp2
      go_ret
      exact ⟨rfl, grown_drewN (Grown.refl _) _⟩
/-! ### THE ROW's STEP: WRITTEN OUT: LEAVE IT -/
set_option maxRecDepth 100000 in
theorem lifted (os : Os) (started : os.Started) (H : Type) (enc : TypeId × Value → H) :
    ReturnsInHanded {} Try.checked os 7 .any (Rows.chunkLevelsSpec.pre6 enc Try.prog Try.f7 Rows.chunkLevelsRow.domain false) (Rows.chunkLevelsSpec.post enc Try.prog Try.f7 false true false false) := by
  refine returnsInHanded_of_change (C := Try.checked) own started (by kernel_rfl) Try.func7
    (ChangeSpec.witness6 (enc := enc) (C := Try.checked) false ⟨#[], #[.int .u64 0, .int .i64 0], []⟩ 8 (by kernel_rfl) (by kernel_rfl) (by kernel_rfl) (by kernel_rfl)) ?_
  intro W base args ds gs before hval0 hW hcnd _
  have hval : ∀ (j : Nat) t v, Try.f7.params[j]? = some t → args[j]? = some v → Value.okWide Try.prog W .any base t v := hval0
  have hW' := hW
  obtain ⟨p, q, hA0, hV, rfl, hfz, hnd⟩ := hW
  have hA : DataW.TrodAll enc Try.prog W 0 (fun _ => true) true Try.f7.params.toList args.toList ds p := hA0
  rw [Try.params7] at hA hval
  obtain ⟨v0, vs0, d0, ds0, p0, q0, hargs, rfl, rfl, h0, r0⟩ := trodAll_cons hA
  obtain ⟨v1, vs1, d1, ds1, p1, q1, rfl, rfl, rfl, h1, r1⟩ := trodAll_cons r0
  obtain ⟨rfl, rfl, rfl⟩ := trodAll_nil r1
  obtain rfl : args = #[v0, v1] := by cases args; simp_all
  obtain ⟨rfl, rfl⟩ := trodVars_none hV
  obtain ⟨a0, rfl, rfl, rfl, w0⟩ := open_int Try.underlying22 (hval 0 22 v0 rfl rfl) h0
  obtain ⟨a1, rfl, rfl, rfl, w1⟩ := open_int Try.underlying3 (hval 1 3 v1 rfl rfl) h1
  clear hA0 hval0
  simp only [List.append_nil] at hW'
  refine (walk a0 a1 w0 w1 W).mono fun e W' ⟨he, hg⟩ => ?_
  subst he
  exact ⟨_, rfl, post_of_same (pa := []) (pv := []) hW' (fun _ _ _ => (trodAll_cons_mk (shut_bool Try.underlying4 _) trodAll_mk0)) (fun sp _ => (trodAll_cons_mk (shut_int Try.underlying22 w0) (trodAll_cons_mk (shut_int Try.underlying3 w1) trodAll_mk0))) (fun _ _ => rfl) rfl
    (hg.frame _) hg.2.1 (ok_one (by kernel_rfl) rfl (okWide_bool_mk Try.underlying4 _))⟩

theorem over : Rows.chunkLevelsRow.holds Try.pinned (OpenSpec.ofChange Rows.chunkLevelsSpec) :=
  OpenClaim.holds_of_wide 7 Try.f7 rfl rfl rfl rfl rfl rfl rfl ⟨rfl, rfl, rfl, rfl, rfl⟩ rfl rfl rfl rfl rfl (by kernel_rfl) Try.func7 (by kernel_rfl)
    (of_decide_eq_true (by kernel_rfl)) (by unfold Func.isWrapper; first | (rw [if_pos (by decide +kernel)]; kernel_rfl) | (rw [if_neg (by decide +kernel)]; exact ⟨rfl, rfl⟩))
    (fun os started H enc _ => lifted os started H enc)

/-- ████ THE STATEMENT ████ -/
theorem proved : Rows.ChunkLevelsSaid :=
  over
#print axioms proved
end Go.Proofs.Ytehkmgmmelnceaa.chunkLevels
