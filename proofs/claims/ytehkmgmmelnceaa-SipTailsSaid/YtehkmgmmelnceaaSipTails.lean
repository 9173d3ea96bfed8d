/- SipTails: for every key, byte and number the law returns true: sip.Sum is the reference's sum for strings of each length from 0 on. Conditions: none beyond the given statement. -/
import Derived.Test.YtehkmgmmelnceaaRows
import Derived.WalkKit
import Derived.ProofKit
import Derived.OpenShut
import Derived.ShutString
import Derived.ChangeOld
import Derived.Below
import Derived.Carry
import Derived.Lib.SmallJoins
import Derived.Deep.RegionHeld3
import Derived.Laws.BytesArg
import Derived.Test.YtehkmgmmelnceaaSe
namespace Go.Proofs.Ytehkmgmmelnceaa.sipTails
open Go.ChangeShapes Go.WideShapes Go.ChangeAt Go.RowKit Go.Joins
open Go.ChangeMaps (open_string shut_string)
set_option linter.unusedVariables false
set_option linter.unusedSimpArgs false

theorem own : ownKnob Try.prog.godebug = none := by kernel_rfl
theorem laidOut : laidOutB Try.prog = true := by kernel_rfl
theorem cells24 : Try.prog.cellsOf 24 = 2 := by kernel_rfl

theorem u64b {n : Int} (h : (Lit.int .u64 n).wf = true) : 0 ≤ n ∧ n < 18446744073709551616 := by have := bounds_u64 h; omega
theorem held_of {w W W' : World} {k0 k1 : Int} (h : W.cell? ⟨w.heap.size, 0, none⟩ = some (.int .u64 k0) ∧ W.cell? ⟨w.heap.size, 1, none⟩ = some (.int .u64 k1) ∧ Below w.heap.size w W ∧ w.heap.size < W.heap.size) (hb : Below W.heap.size W W') :
    W'.cell? ⟨w.heap.size, 0, none⟩ = some (.int .u64 k0) ∧ W'.cell? ⟨w.heap.size, 1, none⟩ = some (.int .u64 k1) ∧ Below w.heap.size w W' ∧ w.heap.size < W'.heap.size :=
  ⟨(hb.cell (p := ⟨w.heap.size, 0, none⟩) h.2.2.2).trans h.1, (hb.cell (p := ⟨w.heap.size, 1, none⟩) h.2.2.2).trans h.2.1, h.2.2.1.trans (hb.mono h.2.2.1.size), Nat.lt_of_lt_of_le h.2.2.2 hb.size⟩
theorem conv_one (W : World) (x : Int) : (convert 30 9 (.slice (some ⟨W.heap.size, 0, none⟩) 1 1)).run Try.prog (W.alloc (.cells #[.int .u8 x] 5)) = .ok (.string (strOfNums [x])) (W.alloc (.cells #[.int .u8 x] 5)) :=
  run_convert_bytes_arg (P := Try.prog) (W.alloc (.cells #[.int .u8 x] 5)) 30 5 Try.underlying30 Try.underlying5 W.heap.size 0 1 1 [x] rfl (fun i hi => by
    obtain rfl : i = 0 := by omega
    exact (Blk.new W 5 #[.int .u8 x]).cell 0) 9 Try.underlying9

theorem held_alloc {w W : World} {k0 k1 : Int} (h : W.cell? ⟨w.heap.size, 0, none⟩ = some (.int .u64 k0) ∧ W.cell? ⟨w.heap.size, 1, none⟩ = some (.int .u64 k1) ∧ Below w.heap.size w W ∧ w.heap.size < W.heap.size) (o : Obj) :
    (W.alloc o).cell? ⟨w.heap.size, 0, none⟩ = some (.int .u64 k0) ∧ (W.alloc o).cell? ⟨w.heap.size, 1, none⟩ = some (.int .u64 k1) ∧ Below w.heap.size w (W.alloc o) ∧ w.heap.size < (W.alloc o).heap.size :=
  held_of h ((Below.refl _ _).alloc (Nat.le_refl _) o)
set_option maxRecDepth 100000 in
set_option maxHeartbeats 1000000 in
theorem walk' (k0 k1 b : Int) (n : Nat) (w : World) (h0 : 0 ≤ k0 ∧ k0 < 18446744073709551616) (h1 : 0 ≤ k1 ∧ k1 < 18446744073709551616) (hb : 0 ≤ b ∧ b ≤ 255) (hn : n ≤ 65535) :
    Calls Try.prog 4 #[.agg #[.int .u64 k0, .int .u64 k1], .int .u8 b, .int .u16 n] w fun e w' => e = .returned (.bool true) ∧ Below w.heap.size w w' := by
  have C := conv_one
  go_enter Try.func4, Try.ntmps4
  go_wp2_with (go_at_call 11; refine (awake1 _).mono ?_; rintro e w1 ⟨rfl, hb1⟩)
  have B1 := (Blk.new w 24 #[.int .u64 k0, .int .u64 k1]).below hb1 (by simp)
  have hW : Below w.heap.size w w1 := Below.trans ((Below.refl _ _).alloc (Nat.le_refl _) _) (hb1.mono (by simp))
  have c0 : w1.cell? ⟨w.heap.size, 0, none⟩ = some (.int .u64 k0) := B1.cell 0
  have c1 : w1.cell? ⟨w.heap.size, 1, none⟩ = some (.int .u64 k1) := B1.cell 1
  have hlt := B1.lt
  clear B1 hb1
  go_loopw [7, 14] (fun t i wr => ∃ (k : Nat) (s : ByteArray), k ≤ n % 300 ∧ i = .int .i64 k ∧ t = .string s ∧ s.size = k ∧ (wr.cell? ⟨w.heap.size, 0, none⟩ = some (.int .u64 k0) ∧ wr.cell? ⟨w.heap.size, 1, none⟩ = some (.int .u64 k1) ∧ Below w.heap.size w wr ∧ w.heap.size < wr.heap.size)) (fun t i wr => 300 - (intOf i).toNat)
  case atStart => exact ⟨0, ⟨#[]⟩, Nat.zero_le _, rfl, rfl, rfl, c0, c1, hW, hlt⟩
  case round =>
    clear c0 c1 hW hlt
    obtain ⟨k, s, hk, rfl, rfl, hs, c0, c1, hW, hlt⟩ := hrel
    obtain rfl : s.size = k := hs
    by_cases hkn : s.size < n % 300
    · have hz : (strOfNums [(b + (s.size : Int)) % 256]).size = 1 := strOfNums_size _
      rcases (by omega : s.size < 40 ∨ (40 ≤ s.size ∧ s.size < 240) ∨ 240 ≤ s.size) with m1 | ⟨m1, m2⟩ | m1
      · have d1 : decide ((240 : Int) ≤ (s.size : Int)) = false := by simp; omega
        have d2 : decide ((s.size : Int) < 40) = true := by simp; omega
        go_wp2_with fail
        go_region_held3 (fun w' => w'.cell? ⟨w.heap.size, 0, none⟩ = some (.int .u64 k0) ∧ w'.cell? ⟨w.heap.size, 1, none⟩ = some (.int .u64 k1) ∧ Below w.heap.size w w' ∧ w.heap.size < w'.heap.size)
          (first | exact ⟨c0, c1, hW.drew, hlt⟩ | exact held_of ⟨c0, c1, hW.drew, hlt⟩ hb2 | exact held_of (by assumption) hb2)
          (first | (go_at_call 12; refine (sum_any k0 k1 _ _ h0 h1 (by omega)).mono ?_; rintro e w2 ⟨rfl, hb2⟩) | (go_at_call 13; refine (refSum_any k0 k1 _ _ h0 h1 (by omega)).mono ?_; rintro e w2 ⟨rfl, hb2⟩))
        have HS := (by assumption : w2.cell? ⟨w.heap.size, 0, none⟩ = some (.int .u64 k0) ∧ w2.cell? ⟨w.heap.size, 1, none⟩ = some (.int .u64 k1) ∧ Below w.heap.size w w2 ∧ w.heap.size < w2.heap.size)
        clear c0 c1 hW hlt
        obtain ⟨c0, c1, hW, hlt⟩ := HS
        go_wp2
        refine ⟨⟨s.size + 1, s ++ strOfNums [(b + (s.size : Int)) % 256], by omega, by go_num, rfl, by rw [ByteArray.size_append, strOfNums_size]; rfl, held_alloc ⟨c0, c1, hW, hlt⟩ _⟩, by simp [intOf]; omega⟩
      · have d1 : decide ((240 : Int) ≤ (s.size : Int)) = false := by simp; omega
        have d2 : decide ((s.size : Int) < 40) = false := by simp; omega
        go_wp2
        refine ⟨⟨s.size + 1, s ++ strOfNums [(b + (s.size : Int)) % 256], by omega, by go_num, rfl, by rw [ByteArray.size_append, strOfNums_size]; rfl, held_alloc ⟨c0, c1, hW, hlt⟩ _⟩, by simp [intOf]; omega⟩
      · have d1 : decide ((240 : Int) ≤ (s.size : Int)) = true := by simp; omega
        go_wp2_with fail
        go_region_held3 (fun w' => w'.cell? ⟨w.heap.size, 0, none⟩ = some (.int .u64 k0) ∧ w'.cell? ⟨w.heap.size, 1, none⟩ = some (.int .u64 k1) ∧ Below w.heap.size w w' ∧ w.heap.size < w'.heap.size)
          (first | exact ⟨c0, c1, hW.drew, hlt⟩ | exact held_of ⟨c0, c1, hW.drew, hlt⟩ hb2 | exact held_of (by assumption) hb2)
          (first | (go_at_call 12; refine (sum_any k0 k1 _ _ h0 h1 (by omega)).mono ?_; rintro e w2 ⟨rfl, hb2⟩) | (go_at_call 13; refine (refSum_any k0 k1 _ _ h0 h1 (by omega)).mono ?_; rintro e w2 ⟨rfl, hb2⟩))
        have HS := (by assumption : w2.cell? ⟨w.heap.size, 0, none⟩ = some (.int .u64 k0) ∧ w2.cell? ⟨w.heap.size, 1, none⟩ = some (.int .u64 k1) ∧ Below w.heap.size w w2 ∧ w.heap.size < w2.heap.size)
        clear c0 c1 hW hlt
        obtain ⟨c0, c1, hW, hlt⟩ := HS
        go_wp2
        refine ⟨⟨s.size + 1, s ++ strOfNums [(b + (s.size : Int)) % 256], by omega, by go_num, rfl, by rw [ByteArray.size_append, strOfNums_size]; rfl, held_alloc ⟨c0, c1, hW, hlt⟩ _⟩, by simp [intOf]; omega⟩
    · go_wp2_with fail
      go_region_held3 (fun w' => w'.cell? ⟨w.heap.size, 0, none⟩ = some (.int .u64 k0) ∧ w'.cell? ⟨w.heap.size, 1, none⟩ = some (.int .u64 k1) ∧ Below w.heap.size w w' ∧ w.heap.size < w'.heap.size)
        (first | exact ⟨c0, c1, hW.drew, hlt⟩ | exact held_of ⟨c0, c1, hW.drew, hlt⟩ hb2 | exact held_of (by assumption) hb2)
        (first | (go_at_call 12; refine (sum_any k0 k1 _ _ h0 h1 (by omega)).mono ?_; rintro e w2 ⟨rfl, hb2⟩) | (go_at_call 13; refine (refSum_any k0 k1 _ _ h0 h1 (by omega)).mono ?_; rintro e w2 ⟨rfl, hb2⟩))
      have HS := (by assumption : w2.cell? ⟨w.heap.size, 0, none⟩ = some (.int .u64 k0) ∧ w2.cell? ⟨w.heap.size, 1, none⟩ = some (.int .u64 k1) ∧ Below w.heap.size w w2 ∧ w.heap.size < w2.heap.size)
      clear c0 c1 hW hlt
      obtain ⟨c0, c1, hW, hlt⟩ := HS
      go_wp2
      go_ret
      exact ⟨rfl, hW⟩
theorem walk (a0 b0 : Int) (a1 a2 : Int) (w : World) (w0 : (Lit.int .u64 a0).wf = true) (u0 : (Lit.int .u64 b0).wf = true) (w1 : (Lit.int .u8 a1).wf = true) (w2 : (Lit.int .u16 a2).wf = true) :
    Calls Try.prog 4 #[.agg #[.int .u64 a0, .int .u64 b0], .int .u8 a1, .int .u16 a2] w fun e w' => e = .returned (.bool true) ∧ Below w.heap.size w w' := by
  have hb := bounds_u16 w2
  obtain ⟨n, rfl⟩ := Int.eq_ofNat_of_zero_le hb.1
  exact walk' a0 b0 a1 n w (u64b w0) (u64b u0) (bounds_u8 w1) (by omega)

/-! ### THE ROW's STEP -/
set_option maxRecDepth 100000 in
theorem lifted (os : Os) (started : os.Started) (H : Type) (enc : TypeId × Value → H) :
    ReturnsInHanded {} Try.checked os 4 .any (Rows.sipTailsSpec.pre6 enc Try.prog Try.f4 Rows.sipTailsRow.domain false) (Rows.sipTailsSpec.post enc Try.prog Try.f4 false true false false) := by
  refine returnsInHanded_of_change (C := Try.checked) own started (by kernel_rfl) Try.func4
    (ChangeSpec.witness6 (enc := enc) (C := Try.checked) false ⟨#[], #[.agg #[.int .u64 0, .int .u64 0], .int .u8 0, .int .u16 0], []⟩ 8 (by kernel_rfl) (by kernel_rfl) (by kernel_rfl) (by kernel_rfl)) ?_
  intro W base args ds gs before hval0 hW hcnd _
  have hval : ∀ (j : Nat) t v, Try.f4.params[j]? = some t → args[j]? = some v → Value.okWide Try.prog W .any base t v := hval0
  have hW' := hW
  obtain ⟨p, q, hA0, hV, rfl, hfz, hnd⟩ := hW
  have hA : DataW.TrodAll enc Try.prog W 0 (fun _ => true) true Try.f4.params.toList args.toList ds p := hA0
  rw [Try.params4] at hA hval
  obtain ⟨v0, vs0, d0, ds0, p0, q0, hargs, rfl, rfl, h0, r0⟩ := trodAll_cons hA
  obtain ⟨v1, vs1, d1, ds1, p1, q1, rfl, rfl, rfl, h1, r1⟩ := trodAll_cons r0
  obtain ⟨v2, vs2, d2, ds2, p2, q2, rfl, rfl, rfl, h2, r2⟩ := trodAll_cons r1
  obtain ⟨rfl, rfl, rfl⟩ := trodAll_nil r2
  obtain rfl : args = #[v0, v1, v2] := by cases args; simp_all
  obtain ⟨rfl, rfl⟩ := trodVars_none hV
  have k0 := h0
  have lt0 : ∀ x ∈ p0, x.block < W.heap.size := by obtain ⟨m, hm⟩ := k0; exact DataW.trod_lt m _ _ _ hm
  obtain ⟨x0, y0, e0, f0, m0, rfl, rfl, rfl, hx0, hy0⟩ := open_agg2 Try.underlying24 (by kernel_rfl) cells24 (hval 0 24 v0 rfl rfl) h0
  obtain ⟨a0, ex0, rfl, w0⟩ := DataW.trod_int Try.underlying22 hx0
  obtain ⟨b0, ey0, rfl, u0⟩ := DataW.trod_int Try.underlying22 hy0
  simp at ex0 ey0
  subst ex0 ey0
  have k1 := h1
  have lt1 : ∀ x ∈ p1, x.block < W.heap.size := by obtain ⟨m, hm⟩ := k1; exact DataW.trod_lt m _ _ _ hm
  obtain ⟨a1, rfl, rfl, rfl, w1⟩ := open_int Try.underlying5 (hval 1 5 v1 rfl rfl) h1
  have k2 := h2
  have lt2 : ∀ x ∈ p2, x.block < W.heap.size := by obtain ⟨m, hm⟩ := k2; exact DataW.trod_lt m _ _ _ hm
  obtain ⟨a2, rfl, rfl, rfl, w2⟩ := open_int Try.underlying29 (hval 2 29 v2 rfl rfl) h2
  clear hA0 hval0
  refine (walk a0 b0 a1 a2 W w0 u0 w1 w2).mono fun e W' ⟨he, bel⟩ => ?_
  subst he
  exact ⟨_, rfl, _, _, _, [], _, [], hW', trodAll_mk1 (shut_bool Try.underlying4 _), (trodAll_cons_mk (Below.trod laidOut (by kernel_rfl) (of_decide_eq_true (by kernel_rfl)) k0 bel lt0) (trodAll_cons_mk (Below.trod laidOut (by kernel_rfl) (of_decide_eq_true (by kernel_rfl)) k1 bel lt1) (trodAll_cons_mk (Below.trod laidOut (by kernel_rfl) (of_decide_eq_true (by kernel_rfl)) k2 bel lt2) trodAll_mk0))), rfl, bel.frame _, fun h => by cases h⟩

theorem over : Rows.sipTailsRow.holds Try.pinned (OpenSpec.ofChange Rows.sipTailsSpec) :=
  OpenClaim.holds_of_wide 4 Try.f4 rfl rfl rfl rfl rfl rfl rfl ⟨rfl, rfl, rfl, rfl, rfl⟩ rfl rfl rfl rfl rfl (by kernel_rfl) Try.func4 (by kernel_rfl)
    (of_decide_eq_true (by kernel_rfl)) (by unfold Func.isWrapper; first | (rw [if_pos (by decide +kernel)]; kernel_rfl) | (rw [if_neg (by decide +kernel)]; exact ⟨rfl, rfl⟩))
    (fun os started H enc _ => lifted os started H enc)

theorem proved : Rows.SipTailsSaid := over
#print axioms proved
end Go.Proofs.Ytehkmgmmelnceaa.sipTails
