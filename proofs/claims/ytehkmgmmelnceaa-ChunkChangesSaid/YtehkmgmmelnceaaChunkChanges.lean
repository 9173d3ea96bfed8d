/- ChunkChanges: for every set, number and stop the law returns true: with a number, and without it, a set is as the document says. Conditions: none beyond the given statement. -/
import Derived.Test.YtehkmgmmelnceaaRows
import Derived.WalkKit
import Derived.ProofKit
import Derived.OpenShut
import Derived.ShutString
import Derived.ChangeOld
import Derived.Below
import Derived.Carry
import Derived.Lib.SmallJoins
import Derived.Test.YtehkmgmmelnceaaCf
namespace Go.Proofs.Ytehkmgmmelnceaa.chunkChanges
open Go.ChangeShapes Go.WideShapes Go.ChangeAt Go.RowKit Go.Joins
open Go.Shelf
open Go.ChangeMaps (open_string shut_string)
set_option linter.unusedVariables false
set_option linter.unusedSimpArgs false

theorem own : ownKnob Try.prog.godebug = none := by kernel_rfl
theorem laidOut : laidOutB Try.prog = true := by kernel_rfl
theorem cells24 : Try.prog.cellsOf 24 = 2 := by kernel_rfl

attribute [local go_sem] Oper.semAt_some

theorem wo_bit (b t j : Nat) (hb : b < 4294967296) (ht : t < 32) : (wo b (2 ^ t)).testBit j = (b.testBit j && !decide (t = j)) := by
  unfold wo
  have hp : 2 ^ t < 2 ^ 32 := Nat.pow_lt_pow_right (by decide) ht
  have e : 4294967295 - 2 ^ t = 2 ^ 32 - (2 ^ t + 1) := by omega
  rw [Nat.testBit_and, e, Nat.testBit_two_pow_sub_succ hp, Nat.testBit_two_pow]
  by_cases hj : j < 32
  · simp [hj]
  · have : b.testBit j = false := Nat.testBit_lt_two_pow (Nat.lt_of_lt_of_le hb (Nat.pow_le_pow_right (n := 2) (by decide) (by omega : 32 ≤ j)))
    simp [this]
theorem wo_lt (b c : Nat) (hb : b < 4294967296) : wo b c < 4294967296 := Nat.lt_of_le_of_lt Nat.and_le_left hb
theorem wo_zero (b : Nat) (hb : b < 4294967296) : wo b 0 = b := by
  unfold wo
  have := Nat.and_two_pow_sub_one_eq_mod b 32
  rw [Nat.mod_eq_of_lt (by omega)] at this
  exact this
theorem cnt_succ' (n B : Nat) : cnt (n + 1) B = cnt n B + if B.testBit n then 1 else 0 := by
  rw [cnt_els, cnt_els, elsTo_succ, List.length_append]
  congr 1
  cases B.testBit n <;> rfl
theorem cnt_congr (n X Y : Nat) (h : ∀ j, j < n → X.testBit j = Y.testBit j) : cnt n X = cnt n Y := by
  induction n with
  | zero => rfl
  | succ n ih => rw [cnt_succ', cnt_succ', ih (fun j hj => h j (by omega)), h n (by omega)]
theorem cnt_or (b i n : Nat) (h : b.testBit i = false) : cnt n (b ||| 2 ^ i) = cnt n b + if i < n then 1 else 0 := by
  induction n with
  | zero => rfl
  | succ n ih =>
    rw [cnt_succ', cnt_succ', ih, Nat.testBit_or, Nat.testBit_two_pow]
    by_cases hn : i = n
    · subst hn; simp [h]
    · have e1 : (i < n + 1) = (i < n) := by simp; omega
      simp only [e1, hn, decide_false, Bool.or_false]
      omega
/-- all that the law asks of a set with and without a number -/
theorem facts (b t : Nat) (hb : b < 4294967296) (ht : t < 32) :
    (b ||| 2 ^ t).testBit t = true ∧ (wo b (2 ^ t)).testBit t = false ∧ wo (b ||| 2 ^ t) (2 ^ t) = wo b (2 ^ t) ∧ wo b (2 ^ t) ||| 2 ^ t = b ||| 2 ^ t ∧
    (b = b ||| 2 ^ t ∨ b = wo b (2 ^ t)) ∧ cnt t (b ||| 2 ^ t) = cnt t (wo b (2 ^ t)) ∧ cnt 32 (b ||| 2 ^ t) = cnt 32 (wo b (2 ^ t)) + 1 := by
  have hp : 2 ^ t < 2 ^ 32 := Nat.pow_lt_pow_right (by decide) ht
  have hB : b ||| 2 ^ t < 4294967296 := Nat.or_lt_two_pow (n := 32) hb hp
  have h4 : wo b (2 ^ t) ||| 2 ^ t = b ||| 2 ^ t := by
    apply Nat.eq_of_testBit_eq; intro j
    rw [Nat.testBit_or, Nat.testBit_or, wo_bit b t j hb ht, Nat.testBit_two_pow]
    by_cases hj : t = j <;> simp [hj]
  have h2 : (wo b (2 ^ t)).testBit t = false := by rw [wo_bit b t t hb ht]; simp
  refine ⟨by rw [Nat.testBit_or, Nat.testBit_two_pow]; simp, h2, ?_, h4, ?_, ?_, ?_⟩
  · apply Nat.eq_of_testBit_eq; intro j
    rw [wo_bit _ t j hB ht, wo_bit b t j hb ht, Nat.testBit_or, Nat.testBit_two_pow]
    by_cases hj : t = j <;> simp [hj]
  · cases h : b.testBit t
    · right
      apply Nat.eq_of_testBit_eq; intro j
      rw [wo_bit b t j hb ht]
      by_cases hj : t = j
      · subst hj; simp [h]
      · simp [hj]
    · left
      apply Nat.eq_of_testBit_eq; intro j
      rw [Nat.testBit_or, Nat.testBit_two_pow]
      by_cases hj : t = j
      · subst hj; simp [h]
      · simp [hj]
  · apply cnt_congr; intro j hj
    rw [Nat.testBit_or, Nat.testBit_two_pow, wo_bit b t j hb ht]
    have : t ≠ j := by omega
    simp [this]
  · rw [← h4, cnt_or _ _ _ h2, if_pos ht]
theorem has_els2 (b t : Nat) (r : Bool) (w : World) (h1 : b < 4294967296) (ht : t < 32) (hr : b.testBit t = r) :
    Calls Try.prog 23 #[.int .u32 b, .int .i64 t] w fun e w' => e = .returned (.bool r) ∧ w = w' := by
  have h := has_any b t w h1
  rw [has_bit b t ht, hr] at h
  exact h

set_option maxRecDepth 100000 in
set_option maxHeartbeats 2000000 in
theorem walk_no (b : Nat) (i st : Int) (w : World) (hb : b < 4294967296) (hst : 0 ≤ st ∧ st ≤ 255) (hi : ¬ (0 ≤ i ∧ i < 32)) :
    Calls Try.prog 9 #[.int .u32 b, .int .i64 i, .int .u8 st] w fun e w' => e = .returned (.bool true) ∧ Below w.heap.size w w' := by
  have eo : onl i = 0 := by unfold onl; rw [if_neg hi]
  have H0 := Lib.hid (show b ||| onl i = b by rw [eo]; simp)
  have H1 := Lib.hid (show wo b (onl i) = b by rw [eo]; exact wo_zero b hb)
  have H2 := Lib.hid (show (b &&& onl i != 0) = false by rw [eo]; simp)
  clear eo
  by_cases h0 : i < 0
  · clear hi
    go_enter Try.func9, Try.ntmps9
    go_wp2_with fail
    refine (awake2 _).mono ?_
    rintro e w' ⟨rfl, nq, rfl⟩
    go_wp2_with fail
    refine (list_any b _ hb).mono ?_
    rintro e w1 ⟨v, rfl, hown, hB1⟩
    have hW1 : Below w.heap.size w w1 := (cbelow_drewN ((Below.refl _ w).alloc (Nat.le_refl _) _) nq).trans (hB1.mono (by simp))
    clear hown hB1
    go_wp2_with fail
    refine (with_any b i _ hb).mono ?_
    rintro e w' ⟨rfl, rfl⟩
    rw [H0.out]
    go_wp2_with fail
    refine (without_any b i _ hb).mono ?_
    rintro e w' ⟨rfl, rfl⟩
    rw [H1.out]
    go_wp2_with fail
    refine (has_any b i _ hb).mono ?_
    rintro e w' ⟨rfl, rfl⟩
    rw [H2.out]
    go_wp2
    go_ret
    exact ⟨rfl, hW1⟩
  · have h32 : 32 ≤ i := by omega
    have dk : decide (i < 32) = false := by simp; omega
    clear hi
    go_enter Try.func9, Try.ntmps9
    go_wp2_with fail
    refine (awake2 _).mono ?_
    rintro e w' ⟨rfl, nq, rfl⟩
    go_wp2_with fail
    refine (list_any b _ hb).mono ?_
    rintro e w1 ⟨v, rfl, hown, hB1⟩
    have hW1 : Below w.heap.size w w1 := (cbelow_drewN ((Below.refl _ w).alloc (Nat.le_refl _) _) nq).trans (hB1.mono (by simp))
    clear hown hB1
    go_wp2_with fail
    refine (with_any b i _ hb).mono ?_
    rintro e w' ⟨rfl, rfl⟩
    rw [H0.out]
    go_wp2_with fail
    refine (without_any b i _ hb).mono ?_
    rintro e w' ⟨rfl, rfl⟩
    rw [H1.out]
    go_wp2_with fail
    refine (has_any b i _ hb).mono ?_
    rintro e w' ⟨rfl, rfl⟩
    rw [H2.out]
    go_wp2
    go_ret
    exact ⟨rfl, hW1⟩

attribute [local irreducible] cnt

set_option maxRecDepth 100000 in
set_option maxHeartbeats 2000000 in
theorem walk_yes (b t s : Nat) (w : World) (hb : b < 4294967296) (hst : s ≤ 255) (ht : t < 32) :
    Calls Try.prog 9 #[.int .u32 b, .int .i64 t, .int .u8 s] w fun e w' => e = .returned (.bool true) ∧ Below w.heap.size w w' := by
  have hle := elsTo_le b 32
  have F := Lib.hid (facts b t hb ht)
  have eo : onl (t : Int) = 2 ^ t := by simp [onl]; omega
  have H0 := Lib.hid (show b ||| onl (t : Int) = b ||| 2 ^ t by rw [eo])
  have H1 := Lib.hid (show wo b (onl (t : Int)) = wo b (2 ^ t) by rw [eo])
  have EO := Lib.hid eo
  have hX := Lib.hid (show ∀ j : Nat, j < 32 → hasI (elsTo b 32 ++ [t]) j = (b ||| 2 ^ t).testBit j from fun j hj => by
    rw [Nat.testBit_or, Nat.testBit_two_pow]
    have h1 : hasI (elsTo b 32 ++ [t]) j = (hasI (elsTo b 32) j || ((j : Int) == (t : Int))) := by simp [hasI]
    rw [h1, Bool.eq_iff_iff]
    simp only [hasI, Bool.or_eq_true, List.any_eq_true, beq_iff_eq, decide_eq_true_eq]
    constructor
    · rintro (⟨x, hx, e⟩ | e)
      · have := (els_mem b 32 x).1 hx
        left
        have : x = j := by omega
        subst this
        exact (els_mem b 32 x).1 hx |>.2
      · right; omega
    · rintro (h | h)
      · exact .inl ⟨j, (els_mem b 32 j).2 ⟨hj, h⟩, rfl⟩
      · right; omega)
  have hB1 := Lib.hid (show b ||| 2 ^ t < 4294967296 from Nat.or_lt_two_pow (n := 32) hb (Nat.pow_lt_pow_right (by decide) ht))
  have hB0 := Lib.hid (wo_lt b (2 ^ t) hb)
  clear eo
  have dt : decide ((t : Int) < 32) = true := by simp; omega
  have hvals := Lib.hid (vals_snoc (elsTo b 32) t)
  obtain ⟨i0, hi, hz0, hz1, hz2⟩ := info_parts info3
  generalize hPB : b ||| 2 ^ t = P at *
  generalize hPW : wo b (2 ^ t) = R at *
  clear hPB hPW
  refine (callsIn_wide (n := 6)).1 ?_
  refine callsIn_of_wp_marks Try.func9 rfl trivial ?_ rfl
  simp only [Try.ntmps9, List.size_toArray, List.length_cons, List.length_nil, Nat.reduceAdd, Nat.reduceSub, Array.replicate_succ, Array.replicate_zero, List.push_toArray, List.append_toArray, List.nil_append, List.cons_append]
  gi_wp2_with fail
  refine ⟨trivial, (callsIn_wide.2 (awake2 _)).mono ?_⟩
  rintro e w' ⟨rfl, nq, rfl⟩
  gi_wp2_with fail
  refine ⟨trivial, (callsIn_wide.2 (list_any b _ hb)).mono ?_⟩
  rintro e w1 ⟨v, rfl, hown, hB⟩
  obtain ⟨A0, c0, rfl, _⟩ := RdA.of_own hown
  have BS := ((CBlk.new w 5 #[.int .u8 s]).drewN nq).below hB (by simp)
  have hW1 : Below w.heap.size w w1 := (cbelow_drewN ((Below.refl _ w).alloc (Nat.le_refl _) _) nq).trans (hB.mono (by simp))
  clear hB
  gi_wp2_with fail
  refine ⟨trivial, (callsIn_wide.2 (with_any b t _ hb)).mono ?_⟩
  rintro e w' ⟨rfl, rfl⟩
  rw [H0.out]
  gi_wp2_with fail
  refine ⟨trivial, (callsIn_wide.2 (without_any b t _ hb)).mono ?_⟩
  rintro e w' ⟨rfl, rfl⟩
  rw [H1.out]
  have hown2 : w1.ownsRow (w.heap.size + 1) 3 1 (.slice A0 (elsTo b 32).length c0) (elsTo b 32).length (vals (elsTo b 32)) := by simpa using hown
  have hge := own_ge hown2
  have hsz1 := BS.lt
  clear hown
  gi_wp2_with (gi_at_builtin; refine wpListIn_append_own _ rfl _ _ 45 rfl (w.heap.size + 1) 3 i0 (.int .i64 0) 1 8 Try.underlying45 hi hz0 hz1 hz2 rfl (by decide) _ _ _ rfl (hown2.alloc _) ⟨w1.heap.size, 0, none⟩ 1 1 [.int .i64 t] rfl rfl (cell_one_new _ _ _) (by simp [Value.oneCell']) (by unfold maxLen; omega) (by omega) (by simp; omega) ?_; intro v' w2 hown' hgrow _; obtain ⟨g', cap', rfl⟩ := ownsRow_succ hown')
  have hown3 : w2.ownsRow (w.heap.size + 1) 3 1 (.slice (some ⟨g', 0, none⟩) ((elsTo b 32).length + 1) cap') ((elsTo b 32).length + 1) (vals (elsTo b 32 ++ [t])) := by rw [hvals.out]; exact hown'
  obtain ⟨A, c, hv, hR⟩ := RdA.of_own hown3
  obtain rfl : some ⟨g', 0, none⟩ = A := by injection hv
  have hof := of_any (some ⟨g', 0, none⟩) cap' (elsTo b 32 ++ [t]) P w2 hR (by simp; omega) hB1.out hX.out
  simp only [List.length_append, List.length_cons, List.length_nil, Nat.zero_add] at hof
  have hV2 : Below (w.heap.size + 1) w1 w2 := ((Below.refl _ w1).alloc (by omega) _).grown hgrow (by simp; omega) hge
  have BS2 : CBlk w2 w.heap.size 5 #[.int .u8 s] := BS.below hV2 (by omega)
  have hW2 : Below w.heap.size w w2 := hW1.trans (hV2.mono (by omega))
  have HOF := Lib.hid hof
  have F3 := Lib.hid (show wo P (onl (t : Int)) = R by rw [EO.out]; exact F.out.2.2.1)
  have F4 := Lib.hid (show R ||| onl (t : Int) = P by rw [EO.out]; exact F.out.2.2.2.1)
  have FN := Lib.hid (show nthV P (cnt t P) = some t from nthV_of P t _ ((els_mem P 32 t).2 ⟨ht, F.out.1⟩) rfl)
  have hcs : ((b : Int) != (P : Int)) = false ∨ (((b : Int) != (P : Int)) = true ∧ ((b : Int) != (R : Int)) = false) := by
    by_cases hbp : b = P
    · left; simp [hbp]
    · right
      rcases F.out.2.2.2.2.1 with h | h
      · exact absurd h hbp
      · exact ⟨by rw [bne_iff_ne]; omega, by rw [bne_eq_false_iff_eq]; omega⟩
  clear hown' hown3 hv hR hof hV2 hgrow hown2 hge BS hW1 hX
  refine ⟨trivial, (callsIn_wide.2 HOF.out).mono ?_⟩
  rintro e w' ⟨rfl, rfl⟩
  clear HOF
  rcases hcs with hd1 | ⟨hd1, hd2⟩
  · gi_wp2_with fail
    refine ⟨trivial, (callsIn_wide.2 (has_els2 P t true _ hB1.out ht F.out.1)).mono ?_⟩
    rintro e w' ⟨rfl, rfl⟩
    gi_wp2_with fail
    refine ⟨trivial, (callsIn_wide.2 (has_els2 R t false _ hB0.out ht F.out.2.1)).mono ?_⟩
    rintro e w' ⟨rfl, rfl⟩
    gi_wp2_with fail
    refine ⟨trivial, (callsIn_wide.2 (without_any P t _ hB1.out)).mono ?_⟩
    rintro e w' ⟨rfl, rfl⟩
    rw [F3.out]
    gi_wp2_with fail
    refine ⟨trivial, (callsIn_wide.2 (with_any R t _ hB0.out)).mono ?_⟩
    rintro e w' ⟨rfl, rfl⟩
    rw [F4.out]
    gi_wp2_with fail
    refine ⟨trivial, (callsIn_wide.2 (rank_nat P t _ hB1.out)).mono ?_⟩
    rintro e w' ⟨rfl, n1, rfl⟩
    gi_wp2_with fail
    refine ⟨trivial, (callsIn_wide.2 (nth_any P (cnt t P) _ hB1.out)).mono ?_⟩
    rintro e w3 ⟨rfl, hB3⟩
    rw [FN.out]
    have BS3 := BS2.below (((cbelow_drewN (Below.refl _ w2) n1)).trans hB3) BS2.lt
    have hW3 := hW2.trans (((cbelow_drewN (Below.refl _ w2) n1).trans hB3).mono hW2.size)
    clear hB3 BS2 hW2
    gi_wp2_with fail
    refine ⟨trivial, (callsIn_wide.2 (all_any b _)).mono ?_⟩
    rintro e w' ⟨rfl, rfl⟩
    gi_wp2_with fail
    have BM0 := (CBlk.new w3 3 #[.int .i64 0]).alloc (.cells #[.int .u32 b] 44)
    have BA0 := CBlk.new (w3.alloc (.cells #[.int .i64 0] 3)) 44 #[.int .u32 b]
    have BS4 := (BS3.alloc (.cells #[.int .i64 0] 3)).alloc (.cells #[.int .u32 b] 44)
    have hsz3 := hW3.size
    have hlt3 := BS3.lt
    have hW4 : Below w.heap.size w ((w3.alloc (.cells #[.int .i64 0] 3)).alloc (.cells #[.int .u32 b] 44)) := (hW3.alloc hsz3 _).alloc (by simp; omega) _
    have FR := Lib.hid F.out.2.2.2.2.2.1
    have FC := Lib.hid F.out.2.2.2.2.2.2
    simp only [World.size_alloc] at BA0
    have hsz4 : ((w3.alloc (.cells #[.int .i64 0] 3)).alloc (.cells #[.int .u32 b] 44)).heap.size = w3.heap.size + 2 := by simp
    clear F F3 F4 FN BS3 hW3 H0 H1 EO
    generalize (w3.alloc (.cells #[.int .i64 0] 3)).alloc (.cells #[.int .u32 b] 44) = W0 at *
    refine wpIn_rangeFunc_ownG rfl (by decide) (gf := 43) (lb := #[.pointer (some ⟨w3.heap.size + 1, 0, none⟩)]) rfl trivial (enters_of Try.func43 (by kernel_rfl) rfl)
      (all_stops (6 - 1) (w3.heap.size + 1) b (by decide) hb W0 BA0) KpB_t (KpB_b BA0.lt) (Below.refl _ _) (fun _ => rfl)
      (fun pre W => ((pre.length ≤ s % 40) ∧ CBlk W w.heap.size 5 #[.int .u8 s] ∧ CBlk W w3.heap.size 3 #[.int .i64 (pre.length : Nat)]) ∧ Below w.heap.size w W)
      (fun c pre W => (c = .exit 0 ∧ (pre.length = s % 40 + 1) ∧ CBlk W w.heap.size 5 #[.int .u8 s] ∧ CBlk W w3.heap.size 3 #[.int .i64 (pre.length : Nat)]) ∧ Below w.heap.size w W)
      (OwnFrom.and (Own.from (fun q X Y row hs hg hr => ⟨hs.1, hs.2.1.own hg hr, hs.2.2.own hg hr⟩) _) (ownFrom_below (Nat.le_refl _) (by omega)))
      (fun c => OwnFrom.and (Own.from (fun q X Y row hs hg hr => ⟨hs.1, hs.2.1, hs.2.2.1.own hg hr, hs.2.2.2.own hg hr⟩) _) (ownFrom_below (Nat.le_refl _) (by omega)))
      ⟨⟨by simp, BS4, BM0⟩, hW4⟩
      ?a1 ?assign ?body ?done ?stop
    case assign =>
      intro l x W K hK
      gi_wp2
      simp only [List.zip_toArray, List.zip_cons_cons, List.zip_nil_left, List.zip_nil_right, List.size_toArray, List.foldl_toArray', List.foldl_toArray, List.foldl_cons, List.foldl_nil, List.setIfInBounds_toArray, List.set_cons_succ, List.set_cons_zero]
      exact hK
    case body =>
      rintro l pre x W ⟨⟨hp, BSW, BM⟩, hB⟩ hlt
      have cm : W.cell? ⟨w3.heap.size, 0, none⟩ = some (.int .i64 (pre.length : Nat)) := BM.cell 0
      have cs : W.cell? ⟨w.heap.size, 0, none⟩ = some (.int .u8 s) := BSW.cell 0
      have fm := BM.frozen 0
      have hKp : KpB (w3.heap.size + 1) W (W.setCell ⟨w3.heap.size, 0, none⟩ (.int .i64 ((pre.length : Int) + 1))) := Below.heap_setCell _ _ _ _ (by simp)
      have hne : w.heap.size ≠ w3.heap.size := by omega
      by_cases hgo : pre.length + 1 ≤ s % 40
      · gi_wp2
        exact ⟨(KeepsOthers.setCell _ _ _).from _, hKp, ⟨by simp; omega, BSW.far (p := ⟨w3.heap.size, 0, none⟩) hne _, by rw [List.length_append]; exact BM.set1 _⟩, hB.setCell (p := ⟨w3.heap.size, 0, none⟩) (by simp; omega) _⟩
      · gi_wp2
        exact ⟨(KeepsOthers.setCell _ _ _).from _, ⟨rfl, by simp; omega, BSW.far (p := ⟨w3.heap.size, 0, none⟩) hne _, by rw [List.length_append]; exact BM.set1 _⟩, hB.setCell (p := ⟨w3.heap.size, 0, none⟩) (by simp; omega) _⟩
    case done =>
      rintro D ys W hD rfl ⟨⟨hp, BSW, BM⟩, hB⟩ hK
      have cm : W.cell? ⟨w3.heap.size, 0, none⟩ = some (.int .i64 ((elsTo b 32).length : Nat)) := BM.cell 0
      have cs : W.cell? ⟨w.heap.size, 0, none⟩ = some (.int .u8 s) := BSW.cell 0
      have hck := cnt_le 32 R
      gi_wp2_with fail
      refine ⟨trivial, (callsIn_wide.2 (rank_nat P t _ hB1.out)).mono ?_⟩
      rintro e w' ⟨rfl, m1, rfl⟩
      gi_wp2_with fail
      refine ⟨trivial, (callsIn_wide.2 (rank_nat R t _ hB0.out)).mono ?_⟩
      rintro e w' ⟨rfl, m2, rfl⟩
      rw [← FR.out]
      gi_wp2_with fail
      refine ⟨trivial, (callsIn_wide.2 (count_any P _ hB1.out)).mono ?_⟩
      rintro e w' ⟨rfl, m3, rfl⟩
      rw [FC.out]
      gi_wp2_with fail
      refine ⟨trivial, (callsIn_wide.2 (count_any R _ hB0.out)).mono ?_⟩
      rintro e w' ⟨rfl, m4, rfl⟩
      gi_wp2
      all_goals
        refine ⟨by simp, .inl ⟨_, _, rfl, run_takeDeferred (w := W.drewN (m1 + m2 + m3 + m4)) hK, ?_⟩⟩
        refine ⟨_, results_tmp rfl _ _ _, ?_, (cbelow_drewN hB _).trans (belowK_b (w := w) (Nat.le_refl _) _ D _ _ (by omega) hK rfl rfl)⟩
        first
          | rfl
          | (refine congrArg (fun q => Ending.returned (Value.bool q)) (?_ : ((s : Int) % 40 + 1 == ((elsTo b 32).length : Int)) = true); rw [beq_iff_eq]; omega)
    case stop =>
      rintro D c pre W hD hpre ⟨⟨rfl, hp, BSW, BM⟩, hB⟩ hK
      have hpl := hpre.length_le
      have cm : W.cell? ⟨w3.heap.size, 0, none⟩ = some (.int .i64 (pre.length : Nat)) := BM.cell 0
      have cs : W.cell? ⟨w.heap.size, 0, none⟩ = some (.int .u8 s) := BSW.cell 0
      have hck := cnt_le 32 R
      gi_wp2_with fail
      refine ⟨trivial, (callsIn_wide.2 (rank_nat P t _ hB1.out)).mono ?_⟩
      rintro e w' ⟨rfl, m1, rfl⟩
      gi_wp2_with fail
      refine ⟨trivial, (callsIn_wide.2 (rank_nat R t _ hB0.out)).mono ?_⟩
      rintro e w' ⟨rfl, m2, rfl⟩
      rw [← FR.out]
      gi_wp2_with fail
      refine ⟨trivial, (callsIn_wide.2 (count_any P _ hB1.out)).mono ?_⟩
      rintro e w' ⟨rfl, m3, rfl⟩
      rw [FC.out]
      gi_wp2_with fail
      refine ⟨trivial, (callsIn_wide.2 (count_any R _ hB0.out)).mono ?_⟩
      rintro e w' ⟨rfl, m4, rfl⟩
      gi_wp2
      all_goals
        refine ⟨by simp, .inl ⟨_, _, rfl, run_takeDeferred (w := W.drewN (m1 + m2 + m3 + m4)) hK, ?_⟩⟩
        refine ⟨_, results_tmp rfl _ _ _, ?_, (cbelow_drewN hB _).trans (belowK_b (w := w) (Nat.le_refl _) _ D _ _ (by omega) hK rfl rfl)⟩
        first
          | rfl
          | (refine congrArg (fun q => Ending.returned (Value.bool q)) (?_ : ((s : Int) % 40 + 1 == ((elsTo b 32).length : Int)) = true); rw [beq_iff_eq]; omega)
  · gi_wp2_with fail
    refine ⟨trivial, (callsIn_wide.2 (has_els2 P t true _ hB1.out ht F.out.1)).mono ?_⟩
    rintro e w' ⟨rfl, rfl⟩
    gi_wp2_with fail
    refine ⟨trivial, (callsIn_wide.2 (has_els2 R t false _ hB0.out ht F.out.2.1)).mono ?_⟩
    rintro e w' ⟨rfl, rfl⟩
    gi_wp2_with fail
    refine ⟨trivial, (callsIn_wide.2 (without_any P t _ hB1.out)).mono ?_⟩
    rintro e w' ⟨rfl, rfl⟩
    rw [F3.out]
    gi_wp2_with fail
    refine ⟨trivial, (callsIn_wide.2 (with_any R t _ hB0.out)).mono ?_⟩
    rintro e w' ⟨rfl, rfl⟩
    rw [F4.out]
    gi_wp2_with fail
    refine ⟨trivial, (callsIn_wide.2 (rank_nat P t _ hB1.out)).mono ?_⟩
    rintro e w' ⟨rfl, n1, rfl⟩
    gi_wp2_with fail
    refine ⟨trivial, (callsIn_wide.2 (nth_any P (cnt t P) _ hB1.out)).mono ?_⟩
    rintro e w3 ⟨rfl, hB3⟩
    rw [FN.out]
    have BS3 := BS2.below (((cbelow_drewN (Below.refl _ w2) n1)).trans hB3) BS2.lt
    have hW3 := hW2.trans (((cbelow_drewN (Below.refl _ w2) n1).trans hB3).mono hW2.size)
    clear hB3 BS2 hW2
    gi_wp2_with fail
    refine ⟨trivial, (callsIn_wide.2 (all_any b _)).mono ?_⟩
    rintro e w' ⟨rfl, rfl⟩
    gi_wp2_with fail
    have BM0 := (CBlk.new w3 3 #[.int .i64 0]).alloc (.cells #[.int .u32 b] 44)
    have BA0 := CBlk.new (w3.alloc (.cells #[.int .i64 0] 3)) 44 #[.int .u32 b]
    have BS4 := (BS3.alloc (.cells #[.int .i64 0] 3)).alloc (.cells #[.int .u32 b] 44)
    have hsz3 := hW3.size
    have hlt3 := BS3.lt
    have hW4 : Below w.heap.size w ((w3.alloc (.cells #[.int .i64 0] 3)).alloc (.cells #[.int .u32 b] 44)) := (hW3.alloc hsz3 _).alloc (by simp; omega) _
    have FR := Lib.hid F.out.2.2.2.2.2.1
    have FC := Lib.hid F.out.2.2.2.2.2.2
    simp only [World.size_alloc] at BA0
    have hsz4 : ((w3.alloc (.cells #[.int .i64 0] 3)).alloc (.cells #[.int .u32 b] 44)).heap.size = w3.heap.size + 2 := by simp
    clear F F3 F4 FN BS3 hW3 H0 H1 EO
    generalize (w3.alloc (.cells #[.int .i64 0] 3)).alloc (.cells #[.int .u32 b] 44) = W0 at *
    refine wpIn_rangeFunc_ownG rfl (by decide) (gf := 43) (lb := #[.pointer (some ⟨w3.heap.size + 1, 0, none⟩)]) rfl trivial (enters_of Try.func43 (by kernel_rfl) rfl)
      (all_stops (6 - 1) (w3.heap.size + 1) b (by decide) hb W0 BA0) KpB_t (KpB_b BA0.lt) (Below.refl _ _) (fun _ => rfl)
      (fun pre W => ((pre.length ≤ s % 40) ∧ CBlk W w.heap.size 5 #[.int .u8 s] ∧ CBlk W w3.heap.size 3 #[.int .i64 (pre.length : Nat)]) ∧ Below w.heap.size w W)
      (fun c pre W => (c = .exit 0 ∧ (pre.length = s % 40 + 1) ∧ CBlk W w.heap.size 5 #[.int .u8 s] ∧ CBlk W w3.heap.size 3 #[.int .i64 (pre.length : Nat)]) ∧ Below w.heap.size w W)
      (OwnFrom.and (Own.from (fun q X Y row hs hg hr => ⟨hs.1, hs.2.1.own hg hr, hs.2.2.own hg hr⟩) _) (ownFrom_below (Nat.le_refl _) (by omega)))
      (fun c => OwnFrom.and (Own.from (fun q X Y row hs hg hr => ⟨hs.1, hs.2.1, hs.2.2.1.own hg hr, hs.2.2.2.own hg hr⟩) _) (ownFrom_below (Nat.le_refl _) (by omega)))
      ⟨⟨by simp, BS4, BM0⟩, hW4⟩
      ?a2 ?assign2 ?body2 ?done2 ?stop2
    case assign2 =>
      intro l x W K hK
      gi_wp2
      simp only [List.zip_toArray, List.zip_cons_cons, List.zip_nil_left, List.zip_nil_right, List.size_toArray, List.foldl_toArray', List.foldl_toArray, List.foldl_cons, List.foldl_nil, List.setIfInBounds_toArray, List.set_cons_succ, List.set_cons_zero]
      exact hK
    case body2 =>
      rintro l pre x W ⟨⟨hp, BSW, BM⟩, hB⟩ hlt
      have cm : W.cell? ⟨w3.heap.size, 0, none⟩ = some (.int .i64 (pre.length : Nat)) := BM.cell 0
      have cs : W.cell? ⟨w.heap.size, 0, none⟩ = some (.int .u8 s) := BSW.cell 0
      have fm := BM.frozen 0
      have hKp : KpB (w3.heap.size + 1) W (W.setCell ⟨w3.heap.size, 0, none⟩ (.int .i64 ((pre.length : Int) + 1))) := Below.heap_setCell _ _ _ _ (by simp)
      have hne : w.heap.size ≠ w3.heap.size := by omega
      by_cases hgo : pre.length + 1 ≤ s % 40
      · gi_wp2
        exact ⟨(KeepsOthers.setCell _ _ _).from _, hKp, ⟨by simp; omega, BSW.far (p := ⟨w3.heap.size, 0, none⟩) hne _, by rw [List.length_append]; exact BM.set1 _⟩, hB.setCell (p := ⟨w3.heap.size, 0, none⟩) (by simp; omega) _⟩
      · gi_wp2
        exact ⟨(KeepsOthers.setCell _ _ _).from _, ⟨rfl, by simp; omega, BSW.far (p := ⟨w3.heap.size, 0, none⟩) hne _, by rw [List.length_append]; exact BM.set1 _⟩, hB.setCell (p := ⟨w3.heap.size, 0, none⟩) (by simp; omega) _⟩
    case done2 =>
      rintro D ys W hD rfl ⟨⟨hp, BSW, BM⟩, hB⟩ hK
      have cm : W.cell? ⟨w3.heap.size, 0, none⟩ = some (.int .i64 ((elsTo b 32).length : Nat)) := BM.cell 0
      have cs : W.cell? ⟨w.heap.size, 0, none⟩ = some (.int .u8 s) := BSW.cell 0
      have hck := cnt_le 32 R
      gi_wp2_with fail
      refine ⟨trivial, (callsIn_wide.2 (rank_nat P t _ hB1.out)).mono ?_⟩
      rintro e w' ⟨rfl, m1, rfl⟩
      gi_wp2_with fail
      refine ⟨trivial, (callsIn_wide.2 (rank_nat R t _ hB0.out)).mono ?_⟩
      rintro e w' ⟨rfl, m2, rfl⟩
      rw [← FR.out]
      gi_wp2_with fail
      refine ⟨trivial, (callsIn_wide.2 (count_any P _ hB1.out)).mono ?_⟩
      rintro e w' ⟨rfl, m3, rfl⟩
      rw [FC.out]
      gi_wp2_with fail
      refine ⟨trivial, (callsIn_wide.2 (count_any R _ hB0.out)).mono ?_⟩
      rintro e w' ⟨rfl, m4, rfl⟩
      gi_wp2
      all_goals
        refine ⟨by simp, .inl ⟨_, _, rfl, run_takeDeferred (w := W.drewN (m1 + m2 + m3 + m4)) hK, ?_⟩⟩
        refine ⟨_, results_tmp rfl _ _ _, ?_, (cbelow_drewN hB _).trans (belowK_b (w := w) (Nat.le_refl _) _ D _ _ (by omega) hK rfl rfl)⟩
        first
          | rfl
          | (refine congrArg (fun q => Ending.returned (Value.bool q)) (?_ : ((s : Int) % 40 + 1 == ((elsTo b 32).length : Int)) = true); rw [beq_iff_eq]; omega)
    case stop2 =>
      rintro D c pre W hD hpre ⟨⟨rfl, hp, BSW, BM⟩, hB⟩ hK
      have hpl := hpre.length_le
      have cm : W.cell? ⟨w3.heap.size, 0, none⟩ = some (.int .i64 (pre.length : Nat)) := BM.cell 0
      have cs : W.cell? ⟨w.heap.size, 0, none⟩ = some (.int .u8 s) := BSW.cell 0
      have hck := cnt_le 32 R
      gi_wp2_with fail
      refine ⟨trivial, (callsIn_wide.2 (rank_nat P t _ hB1.out)).mono ?_⟩
      rintro e w' ⟨rfl, m1, rfl⟩
      gi_wp2_with fail
      refine ⟨trivial, (callsIn_wide.2 (rank_nat R t _ hB0.out)).mono ?_⟩
      rintro e w' ⟨rfl, m2, rfl⟩
      rw [← FR.out]
      gi_wp2_with fail
      refine ⟨trivial, (callsIn_wide.2 (count_any P _ hB1.out)).mono ?_⟩
      rintro e w' ⟨rfl, m3, rfl⟩
      rw [FC.out]
      gi_wp2_with fail
      refine ⟨trivial, (callsIn_wide.2 (count_any R _ hB0.out)).mono ?_⟩
      rintro e w' ⟨rfl, m4, rfl⟩
      gi_wp2
      all_goals
        refine ⟨by simp, .inl ⟨_, _, rfl, run_takeDeferred (w := W.drewN (m1 + m2 + m3 + m4)) hK, ?_⟩⟩
        refine ⟨_, results_tmp rfl _ _ _, ?_, (cbelow_drewN hB _).trans (belowK_b (w := w) (Nat.le_refl _) _ D _ _ (by omega) hK rfl rfl)⟩
        first
          | rfl
          | (refine congrArg (fun q => Ending.returned (Value.bool q)) (?_ : ((s : Int) % 40 + 1 == ((elsTo b 32).length : Int)) = true); rw [beq_iff_eq]; omega)
theorem walk (a0 a1 a2 : Int) (w : World) (w0 : (Lit.int .u32 a0).wf = true) (w1 : (Lit.int .i64 a1).wf = true) (w2 : (Lit.int .u8 a2).wf = true) :
    Calls Try.prog 9 #[.int .u32 a0, .int .i64 a1, .int .u8 a2] w fun e w' => e = .returned (.bool true) ∧ Below w.heap.size w w' := by
  have hb := bounds_u32 w0
  have hs := bounds_u8 w2
  obtain ⟨n, rfl⟩ := Int.eq_ofNat_of_zero_le hb.1
  obtain ⟨s, rfl⟩ := Int.eq_ofNat_of_zero_le hs.1
  by_cases h : 0 ≤ a1 ∧ a1 < 32
  · obtain ⟨t, rfl⟩ := Int.eq_ofNat_of_zero_le h.1
    exact walk_yes n t s w (by omega) (by omega) (by omega)
  · exact walk_no n a1 s w (by omega) hs h

/-! ### THE ROW's STEP -/
set_option maxRecDepth 100000 in
theorem lifted (os : Os) (started : os.Started) (H : Type) (enc : TypeId × Value → H) :
    ReturnsInHanded {} Try.checked os 9 .any (Rows.chunkChangesSpec.pre6 enc Try.prog Try.f9 Rows.chunkChangesRow.domain false) (Rows.chunkChangesSpec.post enc Try.prog Try.f9 false true false false) := by
  refine returnsInHanded_of_change (C := Try.checked) own started (by kernel_rfl) Try.func9
    (ChangeSpec.witness6 (enc := enc) (C := Try.checked) false ⟨#[], #[.int .u32 0, .int .i64 0, .int .u8 0], []⟩ 8 (by kernel_rfl) (by kernel_rfl) (by kernel_rfl) (by kernel_rfl)) ?_
  intro W base args ds gs before hval0 hW hcnd _
  have hval : ∀ (j : Nat) t v, Try.f9.params[j]? = some t → args[j]? = some v → Value.okWide Try.prog W .any base t v := hval0
  have hW' := hW
  obtain ⟨p, q, hA0, hV, rfl, hfz, hnd⟩ := hW
  have hA : DataW.TrodAll enc Try.prog W 0 (fun _ => true) true Try.f9.params.toList args.toList ds p := hA0
  rw [Try.params9] at hA hval
  obtain ⟨v0, vs0, d0, ds0, p0, q0, hargs, rfl, rfl, h0, r0⟩ := trodAll_cons hA
  obtain ⟨v1, vs1, d1, ds1, p1, q1, rfl, rfl, rfl, h1, r1⟩ := trodAll_cons r0
  obtain ⟨v2, vs2, d2, ds2, p2, q2, rfl, rfl, rfl, h2, r2⟩ := trodAll_cons r1
  obtain ⟨rfl, rfl, rfl⟩ := trodAll_nil r2
  obtain rfl : args = #[v0, v1, v2] := by cases args; simp_all
  obtain ⟨rfl, rfl⟩ := trodVars_none hV
  have k0 := h0
  have lt0 : ∀ x ∈ p0, x.block < W.heap.size := by obtain ⟨m, hm⟩ := k0; exact DataW.trod_lt m _ _ _ hm
  obtain ⟨a0, rfl, rfl, rfl, w0⟩ := open_int Try.underlying43 (hval 0 43 v0 rfl rfl) h0
  have k1 := h1
  have lt1 : ∀ x ∈ p1, x.block < W.heap.size := by obtain ⟨m, hm⟩ := k1; exact DataW.trod_lt m _ _ _ hm
  obtain ⟨a1, rfl, rfl, rfl, w1⟩ := open_int Try.underlying3 (hval 1 3 v1 rfl rfl) h1
  have k2 := h2
  have lt2 : ∀ x ∈ p2, x.block < W.heap.size := by obtain ⟨m, hm⟩ := k2; exact DataW.trod_lt m _ _ _ hm
  obtain ⟨a2, rfl, rfl, rfl, w2⟩ := open_int Try.underlying5 (hval 2 5 v2 rfl rfl) h2
  clear hA0 hval0
  refine (walk a0 a1 a2 W w0 w1 w2).mono fun e W' ⟨he, bel⟩ => ?_
  subst he
  exact ⟨_, rfl, _, _, _, [], _, [], hW', trodAll_mk1 (shut_bool Try.underlying4 _), (trodAll_cons_mk (Below.trod laidOut (by kernel_rfl) (of_decide_eq_true (by kernel_rfl)) k0 bel lt0) (trodAll_cons_mk (Below.trod laidOut (by kernel_rfl) (of_decide_eq_true (by kernel_rfl)) k1 bel lt1) (trodAll_cons_mk (Below.trod laidOut (by kernel_rfl) (of_decide_eq_true (by kernel_rfl)) k2 bel lt2) trodAll_mk0))), rfl, bel.frame _, fun h => by cases h⟩

theorem over : Rows.chunkChangesRow.holds Try.pinned (OpenSpec.ofChange Rows.chunkChangesSpec) :=
  OpenClaim.holds_of_wide 9 Try.f9 rfl rfl rfl rfl rfl rfl rfl ⟨rfl, rfl, rfl, rfl, rfl⟩ rfl rfl rfl rfl rfl (by kernel_rfl) Try.func9 (by kernel_rfl)
    (of_decide_eq_true (by kernel_rfl)) (by unfold Func.isWrapper; first | (rw [if_pos (by decide +kernel)]; kernel_rfl) | (rw [if_neg (by decide +kernel)]; exact ⟨rfl, rfl⟩))
    (fun os started H enc _ => lifted os started H enc)

theorem proved : Rows.ChunkChangesSaid := over
#print axioms proved
end Go.Proofs.Ytehkmgmmelnceaa.chunkChanges
