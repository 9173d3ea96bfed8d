/- ChunkRanks: for every set and number the law returns true: each number of a set is told by its rank, and a number that comes changes the ranks above it alone. Conditions: none beyond the given statement. -/
import Derived.Test.YtehkmgmmelnceaaRows
import Derived.WalkKit
import Derived.ProofKit
import Derived.OpenShut
import Derived.ShutString
import Derived.ChangeOld
import Derived.Below
import Derived.Carry
import Derived.Lib.SmallJoins
import Derived.Test.YtehkmgmmelnceaaCf
namespace Go.Proofs.Ytehkmgmmelnceaa.chunkRanks
open Go.ChangeShapes Go.WideShapes Go.ChangeAt Go.RowKit Go.Joins
open Go.ChangeMaps (open_string shut_string)
set_option linter.unusedVariables false
set_option linter.unusedSimpArgs false

theorem own : ownKnob Try.prog.godebug = none := by kernel_rfl
theorem laidOut : laidOutB Try.prog = true := by kernel_rfl
theorem cells24 : Try.prog.cellsOf 24 = 2 := by kernel_rfl

theorem cnt_succ (n B : Nat) : cnt (n + 1) B = cnt n B + if B.testBit n then 1 else 0 := by
  rw [cnt_els, cnt_els, elsTo_succ, List.length_append]
  congr 1
  cases B.testBit n <;> rfl
theorem cnt_with (b i n : Nat) (h : b.testBit i = false) : cnt n (b ||| 2 ^ i) = cnt n b + if i < n then 1 else 0 := by
  induction n with
  | zero => rfl
  | succ n ih =>
    rw [cnt_succ, cnt_succ, ih, Nat.testBit_or, Nat.testBit_two_pow]
    by_cases hn : i = n
    · subst hn; simp [h]
    · have e1 : (i < n + 1) = (i < n) := by simp; omega
      simp only [e1, hn, decide_false, Bool.or_false]
      omega
theorem with_same (b i : Nat) (h : b.testBit i = true) : b ||| 2 ^ i = b := by
  apply Nat.eq_of_testBit_eq
  intro j
  rw [Nat.testBit_or, Nat.testBit_two_pow]
  by_cases hj : i = j
  · subst hj; simp [h]
  · simp [hj]
theorem with_other (b i : Nat) (h : b.testBit i = false) : b ||| 2 ^ i ≠ b := by
  intro e
  have := congrArg (fun x => x.testBit i) e
  simp [Nat.testBit_or, Nat.testBit_two_pow, h] at this
theorem at_cnt (b k y : Nat) (h : (elsTo b 32)[k]? = some y) : cnt y b = k := by
  have hlt := (List.getElem?_eq_some_iff.1 h).1
  have hm := (els_mem b 32 y).1 (List.mem_of_getElem? h)
  have hat := els_at b y hm.1 hm.2
  have hnd : (elsTo b 32).Pairwise (· < ·) := List.Pairwise.filter _ List.pairwise_lt_range
  rw [List.pairwise_iff_getElem] at hnd
  have hlt2 := (List.getElem?_eq_some_iff.1 hat).1
  have e1 := (List.getElem?_eq_some_iff.1 h).2
  have e2 := (List.getElem?_eq_some_iff.1 hat).2
  rcases (by omega : cnt y b = k ∨ k < cnt y b ∨ cnt y b < k) with hl | hl | hl
  · exact hl
  · have := hnd _ _ hlt hlt2 hl; omega
  · have := hnd _ _ hlt2 hlt hl; omega

set_option maxRecDepth 100000 in
set_option maxHeartbeats 2000000 in
theorem walk_core (b : Nat) (i : Int) (w : World) (hb : b < 4294967296) (Q : Prop)
    (hw : (b ||| onl i = b) ∨ ∃ n : Nat, n < 32 ∧ i = n ∧ b.testBit n = false) :
    Calls Try.prog 10 #[.int .u32 b, .int .i64 i] w fun e w' => e = .returned (.bool true) ∧ Below w.heap.size w w' := by
  have hle := elsTo_le b 32
  have HW := Lib.hid hw
  clear hw
  go_enter Try.func10, Try.ntmps10
  go_wp2_with (go_at_call 17; refine (awake2 _).mono ?_; rintro e w' ⟨rfl, nq, rfl⟩)
  refine (all_any b _).mono ?_
  rintro e w' ⟨rfl, rfl⟩
  go_wp2_with fail
  refine (collect_any b w.heap.size _ hb (CBlk.new (w.drewN nq) 44 _)).mono ?_
  rintro e w1 ⟨v, rfl, hown, hB1⟩
  obtain ⟨A, c, rfl, hR1⟩ := RdA.of_own hown
  have hW1 : Below w.heap.size w w1 := ((cbelow_drewN (Below.refl _ w) nq).alloc (Nat.le_refl _) _).trans (hB1.mono (by simp))
  clear hown hB1
  go_wp2_with fail
  go_loopw [20] (fun t wr => ∃ k : Nat, k ≤ (elsTo b 32).length ∧ t = .int .i64 k ∧ Hid (RdA wr A (elsTo b 32)) ∧ Below w.heap.size w wr) (fun t wr => (elsTo b 32).length - (intOf t).toNat)
  case atStart => exact ⟨0, Nat.zero_le _, rfl, Lib.hid hR1, hW1⟩
  case round =>
    clear hR1 hW1
    obtain ⟨k, hk, rfl, HR, hW⟩ := hrel
    by_cases hlt : k < (elsTo b 32).length
    · obtain ⟨g, rfl, hc⟩ := HR.out k hlt
      obtain ⟨y, hy⟩ : ∃ y, (elsTo b 32)[k]?.getD 0 = y := ⟨_, rfl⟩
      have hy2 : (elsTo b 32)[k]? = some y := by rw [← hy, List.getElem?_eq_getElem hlt]; rfl
      have HC := Lib.hid (at_cnt b k y hy2)
      have HN := Lib.hid (show nthV b k = some y by unfold nthV; rw [if_pos (by omega), Int.toNat_natCast]; exact hy2)
      rw [hy] at hc
      clear hy hy2
      go_wp2_with fail
      refine (nth_any b k _ hb).mono ?_
      rintro e w2 ⟨rfl, hB2⟩
      rw [HN.out]
      have HR2 := Lib.hid (HR.out.below hB2)
      have hW2 := hW.trans (hB2.mono hW.size)
      clear HR hW hB2 hc
      go_wp2_with fail
      refine (rank_nat b y _ hb).mono ?_
      rintro e w' ⟨rfl, n1, rfl⟩
      rw [HC.out]
      go_wp2
      exact ⟨⟨k + 1, by omega, by go_num, HR2, cbelow_drewN hW2 n1⟩, by simp [intOf]; omega⟩
    · clear HR
      rcases HW.out with hsame | ⟨i, hi32, rfl, hnot⟩
      · go_wp2_with fail
        refine (with_any b _ _ hb).mono ?_
        rintro e w' ⟨rfl, rfl⟩
        rw [hsame]
        go_wp2_with fail
        go_loopw [49] (fun t wr => ∃ k : Nat, k ≤ 33 ∧ t = .int .i64 k ∧ Below w.heap.size w wr) (fun t wr => 33 - (intOf t).toNat)
        case atStart => exact ⟨0, by omega, rfl, hW⟩
        case round =>
          clear hW
          obtain ⟨k, hk, rfl, hW⟩ := hrel
          have hck := cnt_le k b
          by_cases hlt : k < 33
          · have hBlt := hb
            go_wp2_with fail
            refine (rank_nat b k _ hBlt).mono ?_
            rintro e w' ⟨rfl, n1, rfl⟩
            go_wp2_with fail
            refine (rank_nat b k _ hb).mono ?_
            rintro e w' ⟨rfl, n2, rfl⟩
            go_wp2
            exact ⟨⟨k + 1, by omega, by go_num, cbelow_drewN hW _⟩, by simp [intOf]; omega⟩
          · obtain rfl : k = 33 := by omega
            have E := Lib.hid (show rnk b 32 = cnt 32 b from rfl)
            go_wp2_with fail
            refine (rank_any b 32 _ hb).mono ?_
            rintro e w' ⟨rfl, n1, rfl⟩
            rw [E.out]
            go_wp2_with fail
            refine (count_any b _ hb).mono ?_
            rintro e w' ⟨rfl, n2, rfl⟩
            go_wp2
            go_ret
            exact ⟨rfl, cbelow_drewN hW _⟩
      · have hBlt : b ||| 2 ^ i < 4294967296 := Nat.or_lt_two_pow (n := 32) hb (Nat.pow_lt_pow_right (by decide) hi32)
        have hne : (((b ||| 2 ^ i : Nat) : Int) != (b : Int)) = true := by
          rw [bne_iff_ne]; intro e; exact with_other b i hnot (by omega)
        have eo : onl (i : Int) = 2 ^ i := by simp [onl]; omega
        go_wp2_with fail
        refine (with_any b _ _ hb).mono ?_
        rintro e w' ⟨rfl, rfl⟩
        rw [eo]
        clear eo
        go_wp2_with fail
        go_loopw [49] (fun t wr => ∃ k : Nat, k ≤ 33 ∧ t = .int .i64 k ∧ Below w.heap.size w wr) (fun t wr => 33 - (intOf t).toNat)
        case atStart => exact ⟨0, by omega, rfl, hW⟩
        case round =>
          clear hW
          obtain ⟨k, hk, rfl, hW⟩ := hrel
          have hck := cnt_le k b
          by_cases hlt : k < 33
          · by_cases hi : i < k
            · have D : (((cnt k (b ||| 2 ^ i) : Nat) : Int) != ((cnt k b : Nat) : Int) + 1) = false := by
                have := cnt_with b i k hnot; rw [if_pos hi] at this; rw [this]; simp
              have di : decide ((i : Int) < (k : Int)) = true := by simp; omega
              go_wp2_with fail
              refine (rank_nat (b ||| 2 ^ i) k _ hBlt).mono ?_
              rintro e w' ⟨rfl, n1, rfl⟩
              go_wp2_with fail
              refine (rank_nat b k _ hb).mono ?_
              rintro e w' ⟨rfl, n2, rfl⟩
              go_wp2
              exact ⟨⟨k + 1, by omega, by go_num, cbelow_drewN hW _⟩, by simp [intOf]; omega⟩
            · have D : (((cnt k (b ||| 2 ^ i) : Nat) : Int) != ((cnt k b : Nat) : Int)) = false := by
                have := cnt_with b i k hnot; rw [if_neg hi] at this; rw [this]; simp
              have di : decide ((i : Int) < (k : Int)) = false := by simp; omega
              go_wp2_with fail
              refine (rank_nat (b ||| 2 ^ i) k _ hBlt).mono ?_
              rintro e w' ⟨rfl, n1, rfl⟩
              go_wp2_with fail
              refine (rank_nat b k _ hb).mono ?_
              rintro e w' ⟨rfl, n2, rfl⟩
              go_wp2
              exact ⟨⟨k + 1, by omega, by go_num, cbelow_drewN hW _⟩, by simp [intOf]; omega⟩
          · obtain rfl : k = 33 := by omega
            have E := Lib.hid (show rnk b 32 = cnt 32 b from rfl)
            go_wp2_with fail
            refine (rank_any b 32 _ hb).mono ?_
            rintro e w' ⟨rfl, n1, rfl⟩
            rw [E.out]
            go_wp2_with fail
            refine (count_any b _ hb).mono ?_
            rintro e w' ⟨rfl, n2, rfl⟩
            go_wp2
            go_ret
            exact ⟨rfl, cbelow_drewN hW _⟩
theorem walk (a0 a1 : Int) (w : World) (w0 : (Lit.int .u32 a0).wf = true) (w1 : (Lit.int .i64 a1).wf = true) :
    Calls Try.prog 10 #[.int .u32 a0, .int .i64 a1] w fun e w' => e = .returned (.bool true) ∧ Below w.heap.size w w' := by
  have hb := bounds_u32 w0
  obtain ⟨n, rfl⟩ := Int.eq_ofNat_of_zero_le hb.1
  refine walk_core n a1 w (by omega) True ?_
  by_cases h : 0 ≤ a1 ∧ a1 < 32
  · obtain ⟨i, rfl⟩ := Int.eq_ofNat_of_zero_le h.1
    have eo : onl (i : Int) = 2 ^ i := by simp [onl]; omega
    cases ht : n.testBit i
    · exact .inr ⟨i, by omega, rfl, ht⟩
    · exact .inl (by rw [eo]; exact with_same n i ht)
  · exact .inl (by unfold onl; rw [if_neg h]; simp)

/-! ### THE ROW's STEP -/
set_option maxRecDepth 100000 in
theorem lifted (os : Os) (started : os.Started) (H : Type) (enc : TypeId × Value → H) :
    ReturnsInHanded {} Try.checked os 10 .any (Rows.chunkRanksSpec.pre6 enc Try.prog Try.f10 Rows.chunkRanksRow.domain false) (Rows.chunkRanksSpec.post enc Try.prog Try.f10 false true false false) := by
  refine returnsInHanded_of_change (C := Try.checked) own started (by kernel_rfl) Try.func10
    (ChangeSpec.witness6 (enc := enc) (C := Try.checked) false ⟨#[], #[.int .u32 0, .int .i64 0], []⟩ 8 (by kernel_rfl) (by kernel_rfl) (by kernel_rfl) (by kernel_rfl)) ?_
  intro W base args ds gs before hval0 hW hcnd _
  have hval : ∀ (j : Nat) t v, Try.f10.params[j]? = some t → args[j]? = some v → Value.okWide Try.prog W .any base t v := hval0
  have hW' := hW
  obtain ⟨p, q, hA0, hV, rfl, hfz, hnd⟩ := hW
  have hA : DataW.TrodAll enc Try.prog W 0 (fun _ => true) true Try.f10.params.toList args.toList ds p := hA0
  rw [Try.params10] at hA hval
  obtain ⟨v0, vs0, d0, ds0, p0, q0, hargs, rfl, rfl, h0, r0⟩ := trodAll_cons hA
  obtain ⟨v1, vs1, d1, ds1, p1, q1, rfl, rfl, rfl, h1, r1⟩ := trodAll_cons r0
  obtain ⟨rfl, rfl, rfl⟩ := trodAll_nil r1
  obtain rfl : args = #[v0, v1] := by cases args; simp_all
  obtain ⟨rfl, rfl⟩ := trodVars_none hV
  have k0 := h0
  have lt0 : ∀ x ∈ p0, x.block < W.heap.size := by obtain ⟨m, hm⟩ := k0; exact DataW.trod_lt m _ _ _ hm
  obtain ⟨a0, rfl, rfl, rfl, w0⟩ := open_int Try.underlying43 (hval 0 43 v0 rfl rfl) h0
  have k1 := h1
  have lt1 : ∀ x ∈ p1, x.block < W.heap.size := by obtain ⟨m, hm⟩ := k1; exact DataW.trod_lt m _ _ _ hm
  obtain ⟨a1, rfl, rfl, rfl, w1⟩ := open_int Try.underlying3 (hval 1 3 v1 rfl rfl) h1
  clear hA0 hval0
  refine (walk a0 a1 W w0 w1).mono fun e W' ⟨he, bel⟩ => ?_
  subst he
  exact ⟨_, rfl, _, _, _, [], _, [], hW', trodAll_mk1 (shut_bool Try.underlying4 _), (trodAll_cons_mk (Below.trod laidOut (by kernel_rfl) (of_decide_eq_true (by kernel_rfl)) k0 bel lt0) (trodAll_cons_mk (Below.trod laidOut (by kernel_rfl) (of_decide_eq_true (by kernel_rfl)) k1 bel lt1) trodAll_mk0)), rfl, bel.frame _, fun h => by cases h⟩

theorem over : Rows.chunkRanksRow.holds Try.pinned (OpenSpec.ofChange Rows.chunkRanksSpec) :=
  OpenClaim.holds_of_wide 10 Try.f10 rfl rfl rfl rfl rfl rfl rfl ⟨rfl, rfl, rfl, rfl, rfl⟩ rfl rfl rfl rfl rfl (by kernel_rfl) Try.func10 (by kernel_rfl)
    (of_decide_eq_true (by kernel_rfl)) (by unfold Func.isWrapper; first | (rw [if_pos (by decide +kernel)]; kernel_rfl) | (rw [if_neg (by decide +kernel)]; exact ⟨rfl, rfl⟩))
    (fun os started H enc _ => lifted os started H enc)

theorem proved : Rows.ChunkRanksSaid := over
#print axioms proved
end Go.Proofs.Ytehkmgmmelnceaa.chunkRanks
