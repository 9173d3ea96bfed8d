/- RadixOrders: for every two lists of pairs, every order and every list of pairs that come and go the law returns true: in which order pairs come, and what came and went in between, says nothing of the shape; and two trees look alike just if their pairs are. Conditions: none beyond the given statement. -/
import Derived.Test.YtchimfgbdfmegaaRows
import Derived.WalkKit
import Derived.ProofKit
import Derived.OpenShut
import Derived.ShutString
import Derived.ChangeOld
import Derived.Below
import Derived.BigQuiet
import Derived.Deep.RegionHeld3
import Derived.Carry
import Derived.Lib.SmallJoins
import Derived.Test.YtchimfgbdfmegaaHbd
namespace Go.Proofs.Ytchimfgbdfmegaa.radixOrders
open Go.ChangeShapes Go.WideShapes Go.ChangeAt Go.RowKit Go.Joins Go.Lib
open Go.ChangeMaps (open_string shut_string)
set_option linter.unusedVariables false
set_option linter.unusedSimpArgs false
set_option linter.unnecessarySimpa false
set_option maxRecDepth 100000

theorem own : ownKnob Try.prog.godebug = none := by kernel_rfl
theorem laidOut : laidOutB Try.prog = true := by kernel_rfl

set_option maxHeartbeats 8000000 in
theorem walk (a1 : Option Addr) (len1 cap1 : Nat) (ps1 : List Pr) (a2 : Option Addr) (len2 cap2 : Nat) (zs : List Int) (a3 : Option Addr) (len3 cap3 : Nat) (ps3 : List Pr) (a4 : Option Addr) (len4 cap4 : Nat) (ps4 : List Pr) (w : World) (hp1 : ArgP w a1 len1 cap1 ps1) (hrow : IsRow .u8 w a2 len2 cap2 zs) (hp3 : ArgP w a3 len3 cap3 ps3) (hp4 : ArgP w a4 len4 cap4 ps4) :
    Calls Try.prog 7 #[.slice a1 len1 cap1, .slice a2 len2 cap2, .slice a3 len3 cap3, .slice a4 len4 cap4] w fun e w' => e = .returned (.bool true) ∧ Below w.heap.size w w' := by
  obtain ⟨i34, hi34, hy340, hy341, hy342⟩ := info_parts info33
  have hl1 := hp1.len_leR
  have HA1 := Lib.hid hp1
  have HF := Lib.hid (fun wr (L : List Pr) v9 hB hO9 hlL hzL => ord10_any (fun e w' => e = .returned (.bool true) ∧ Below w.heap.size w w') w wr L v9 hB hO9 hlL hzL (fun w' h => ⟨rfl, h⟩) a2 len2 cap2 zs hrow a3 len3 cap3 ps3 hp3 a4 len4 cap4 ps4 hp4)
  clear hp1 hp3 hp4 hrow
  go_enter Try.func7, Try.ntmps7
  go_wp2_with fail
  refine (awakeR_any _).mono ?_
  rintro e w1 ⟨rfl, hB⟩
  go_wp2_with fail
  go_loopw [9, 36] (fun v9 vi wr => ∃ (j : Nat) (L : List Pr), j ≤ len1 ∧ vi = .int .i64 j ∧ L.length ≤ j ∧ L.length ≤ 30 ∧ (∀ x ∈ L, x.1.size ≤ 40 ∧ x.2.size ≤ 40) ∧ Own w.heap.size wr v9 L ∧ Below w.heap.size w wr) (fun v9 vi wr => len1 - (RowKit.intOf vi).toNat)
  case atStart => exact ⟨0, [], by omega, rfl, by simp, by simp, by simp, ⟨rfl, .inl ⟨rfl, rfl⟩⟩, hB⟩
  case round =>
    clear hB
    obtain ⟨j, L, hj, rfl, hlj, hlL, hzL, hO, hB⟩ := hrel
    by_cases hlt : j < len1
    · obtain ⟨x, rfl, hpl, c0, c1⟩ := argp_at HA1.out hB j hlt
      have L1 : (j : Int) < (len1 : Int) := by omega
      have L2 : IntKind.i64.wrap ((j : Int) + 1) = ((j + 1 : Nat) : Int) := by rw [IntWalk.i64_in _ (by unfold maxLen at hl1; omega)]; omega
      generalize pat ps1 j = q at *
      go_upto_region 7 with (fail)
      have hBl := (Below.refl _ wr).alloc (Nat.le_refl _) (.cells #[.string q.1, .string q.2] 34)
      have hP := Blk.new wr 34 #[.string q.1, .string q.2]
      have hO := hO.below hBl
      have hB := hB.trans (hBl.mono hB.size)
      clear hBl c0 c1 hpl
      generalize wr.alloc (.cells #[.string q.1, .string q.2] 34) = W1 at *
      generalize wr.heap.size = NP at *
      by_cases h30 : j < 30
      · have G : (j : Int) < 30 := by omega
        have hp1 : (few40 q).1.size ≤ 40 := cut40_size q.1
        have hp2 : (few40 q).2.size ≤ 40 := cut40_size q.2
        have kfew : Calls Try.prog 16 #[.agg #[.string q.1, .string q.2]] W1 fun e w'' => e = .returned (.agg #[.string (few40 q).1, .string (few40 q).2]) ∧ Below W1.heap.size W1 w'' := few_any q.1 q.2 W1
        generalize few40 q = p at *
        have p0 : W1.cell? ⟨NP, 0, none⟩ = some (.string q.1) := hP.cell 0
        have p1 : W1.cell? ⟨NP, 1, none⟩ = some (.string q.2) := hP.cell 1
        go_wp2_with fail
        refine kfew.mono ?_
        rintro e w2 ⟨rfl, hB2⟩
        have hO := hO.below hB2
        have hB := hB.trans (hB2.mono hB.size)
        clear kfew p0 p1 hB2 hP
        have hBc := (Below.refl _ w2).alloc (Nat.le_refl _) (.cells #[.string p.1, .string p.2] 34)
        have hO := hO.below hBc
        have hB := hB.trans (hBc.mono hB.size)
        have hrow : (w2.alloc (.cells #[.string p.1, .string p.2] 34)).ownsRow w.heap.size 34 2 u9 L.length (flat L) := hO
        have hnb : (w2.alloc (.cells #[.string p.1, .string p.2] 34)).heap[w2.heap.size]? = some (.cells #[.string p.1, .string p.2] 34 (0, 0)) := heap_alloc_new w2 _
        have hsz := hB.size
        have HB := Lib.hid hB
        clear hO hB hBc
        go_wp2_with (at_builtin; refine wpList_append_own_at _ rfl _ _ 64 rfl w.heap.size 34 i34 _ 2 32 Try.underlying64 hi34 hy340 hy341 hy342 zsz_pr (by decide) _ _ _ rfl hrow ⟨w2.heap.size, 0, none⟩ 1 1 [.string p.1, .string p.2] rfl rfl (World.news_of_block hnb) (by simp [Value.oneCell']) (by unfold maxLen; omega) (by omega) hsz ?_; intro v' wa hown' hgrow hnil hat)
        replace hgrow : (w2.alloc (.cells #[.string p.1, .string p.2] 34)).grownBy wa u9.ownBlock := hgrow
        refine ⟨⟨j + 1, L ++ [p], by omega, by go_num, by simp; omega, by simp; omega, ?_, Own.snoc hown', HB.out.grown hgrow hsz (own_ge hrow)⟩, by simp [RowKit.intOf]; omega⟩
        intro z hz
        rcases List.mem_append.1 hz with h | h
        · exact hzL z h
        · rw [List.mem_singleton] at h; rw [h]; exact ⟨hp1, hp2⟩
      · have G : ¬ ((j : Int) < 30) := by omega
        clear hP
        go_wp2_with fail
        exact ⟨⟨j + 1, L, by omega, by go_num, by omega, hlL, hzL, hO, hB⟩, by simp [RowKit.intOf]; omega⟩
    · obtain rfl : j = len1 := by omega
      have G : ¬ ((j : Int) < (j : Int)) := by omega
      have HFF := Lib.hid (HF.out wr L u9 hB hO hlL hzL)
      clear HF hO HA1
      repeat (first | exact HFF.out _ _ _ _ _ _ _ _ _ _ _ _ _ _ _ _ _ _ _ _ _ _ _ _ _ _ _ _ _ _ _ _ _ _ _ _ _ _ _ _ _ _ _ _ _ _ _ _ _ _ _ _ _ _ _ _ _ _ _ _ _ _ _ _ _ _ _ _ _ _ _ _ _ _ _ _ _ _ _ _ _ _ _ _ _ _ _ _ _ _ _ _ _ _ _ _ _ _ _ _ _ _ _ _ _ _ _ _ _ _ _ _ _ _ _ _ _ _ _ _ _ _ _ _ _ _ _ _ _ _ _ _ _ _ _ _ _ _ _ _ _ _ _ _ _ _ _ _ _ _ _ _ _ _ _ _ _ _ _ _ _ _ _ _ _ _ _ _ _ _ _ _ _ _ _ _ _ _ _ _ _ _ _ _ _ _ _ _ _ _ _ _ _ _ _ _ _ _ _ _ _ _ _ _ _ _ _ _ _ | go_step)

/-! ### THE ROW's STEP -/
set_option maxRecDepth 100000 in
theorem lifted (os : Os) (started : os.Started) (H : Type) (enc : TypeId × Value → H) :
    ReturnsInHanded {} Try.checked os 7 .any (Rows.radixOrdersSpec.pre6 enc Try.prog Try.f7 Rows.radixOrdersRow.domain false) (Rows.radixOrdersSpec.post enc Try.prog Try.f7 false true false false) := by
  refine returnsInHanded_of_change (C := Try.checked) own started (by kernel_rfl) Try.func7
    (ChangeSpec.witness6 (enc := enc) (C := Try.checked) false ⟨#[], #[.slice none 0 0, .slice none 0 0, .slice none 0 0, .slice none 0 0], []⟩ 8 (by kernel_rfl) (by kernel_rfl) (by kernel_rfl) (by kernel_rfl)) ?_
  intro W base args ds gs before hval0 hW hcnd _
  have hval : ∀ (j : Nat) t v, Try.f7.params[j]? = some t → args[j]? = some v → Value.okWide Try.prog W .any base t v := hval0
  have hW' := hW
  obtain ⟨p, q, hA0, hV, rfl, hfz, hnd⟩ := hW
  have hA : DataW.TrodAll enc Try.prog W 0 (fun _ => true) true Try.f7.params.toList args.toList ds p := hA0
  rw [Try.params7] at hA hval
  obtain ⟨v0, vs0, d0, ds0, p0, q0, hargs, rfl, rfl, h0, r0⟩ := trodAll_cons hA
  obtain ⟨v1, vs1, d1, ds1, p1, q1, rfl, rfl, rfl, h1, r1⟩ := trodAll_cons r0
  obtain ⟨v2, vs2, d2, ds2, p2, q2, rfl, rfl, rfl, h2, r2⟩ := trodAll_cons r1
  obtain ⟨v3, vs3, d3, ds3, p3, q3, rfl, rfl, rfl, h3, r3⟩ := trodAll_cons r2
  obtain ⟨rfl, rfl, rfl⟩ := trodAll_nil r3
  obtain rfl : args = #[v0, v1, v2, v3] := by cases args; simp_all
  obtain ⟨rfl, rfl⟩ := trodVars_none hV
  obtain ⟨a0, len0, cap0, rfl⟩ := okWide_slice Try.underlying64 (hval 0 64 v0 rfl rfl)
  have k0 := h0
  have lt0 : ∀ x ∈ p0, x.block < W.heap.size := by obtain ⟨m, hm⟩ := k0; exact DataW.trod_lt m _ _ _ hm
  obtain ⟨z0, w0⟩ := open_pairs h0
  obtain ⟨a1, len1, cap1, rfl⟩ := okWide_slice Try.underlying22 (hval 1 22 v1 rfl rfl)
  have k1 := h1
  have lt1 : ∀ x ∈ p1, x.block < W.heap.size := by obtain ⟨m, hm⟩ := k1; exact DataW.trod_lt m _ _ _ hm
  obtain ⟨z1, w1⟩ : ∃ zs, IsRow .u8 W a1 len1 cap1 zs := by
    obtain ⟨fuel, hf⟩ := h1
    rcases open_ints Try.underlying22 Try.underlying5 (by kernel_rfl) hf with ⟨hcs, _⟩ | ⟨x, l, c, zs, hcs, _, hl, hm, hz, _, hcell, hwz⟩
    · simp [Value.cells] at hcs
      obtain ⟨rfl, rfl, rfl⟩ := hcs
      exact ⟨[], .inl ⟨rfl, rfl, rfl, rfl⟩⟩
    · simp [Value.cells] at hcs
      obtain ⟨rfl, rfl, rfl⟩ := hcs
      exact ⟨zs, .inr ⟨_, rfl, hl, hm, by simpa using hz, hcell, hwz⟩⟩
  obtain ⟨a2, len2, cap2, rfl⟩ := okWide_slice Try.underlying64 (hval 2 64 v2 rfl rfl)
  have k2 := h2
  have lt2 : ∀ x ∈ p2, x.block < W.heap.size := by obtain ⟨m, hm⟩ := k2; exact DataW.trod_lt m _ _ _ hm
  obtain ⟨z2, w2⟩ := open_pairs h2
  obtain ⟨a3, len3, cap3, rfl⟩ := okWide_slice Try.underlying64 (hval 3 64 v3 rfl rfl)
  have k3 := h3
  have lt3 : ∀ x ∈ p3, x.block < W.heap.size := by obtain ⟨m, hm⟩ := k3; exact DataW.trod_lt m _ _ _ hm
  obtain ⟨z3, w3⟩ := open_pairs h3
  clear hA0 hval0
  refine (walk a0 len0 cap0 z0 a1 len1 cap1 z1 a2 len2 cap2 z2 a3 len3 cap3 z3 W w0 w1 w2 w3).mono fun e W' ⟨he, bel⟩ => ?_
  subst he
  exact ⟨_, rfl, _, _, _, [], _, [], hW', trodAll_mk1 (shut_bool Try.underlying4 _), (trodAll_cons_mk (Below.trod laidOut (by kernel_rfl) (of_decide_eq_true (by kernel_rfl)) k0 bel lt0) (trodAll_cons_mk (Below.trod laidOut (by kernel_rfl) (of_decide_eq_true (by kernel_rfl)) k1 bel lt1) (trodAll_cons_mk (Below.trod laidOut (by kernel_rfl) (of_decide_eq_true (by kernel_rfl)) k2 bel lt2) (trodAll_cons_mk (Below.trod laidOut (by kernel_rfl) (of_decide_eq_true (by kernel_rfl)) k3 bel lt3) trodAll_mk0)))), rfl, bel.frame _, fun h => by cases h⟩

theorem over : Rows.radixOrdersRow.holds Try.pinned (OpenSpec.ofChange Rows.radixOrdersSpec) :=
  OpenClaim.holds_of_wide 7 Try.f7 rfl rfl rfl rfl rfl rfl rfl ⟨rfl, rfl, rfl, rfl, rfl⟩ rfl rfl rfl rfl rfl (by kernel_rfl) Try.func7 (by kernel_rfl)
    (of_decide_eq_true (by kernel_rfl)) (by unfold Func.isWrapper; first | (rw [if_pos (by decide +kernel)]; kernel_rfl) | (rw [if_neg (by decide +kernel)]; exact ⟨rfl, rfl⟩))
    (fun os started H enc _ => lifted os started H enc)

theorem proved : Rows.RadixOrdersSaid := over
#print axioms proved
end Go.Proofs.Ytchimfgbdfmegaa.radixOrders
