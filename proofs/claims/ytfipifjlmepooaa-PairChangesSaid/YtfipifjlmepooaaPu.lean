/- The merge of two sorted stretches of which the second has one pair. -/
import Derived.Test.YtfipifjlmepooaaPt
namespace Go.Proofs.Ytfipifjlmepooaa
open Go.RowKit Go.Lib
set_option linter.unusedVariables false
set_option linter.unusedSimpArgs false

set_option maxRecDepth 100000 in
set_option maxHeartbeats 16000000 in
theorem merge2 (base g cap : Nat) (xs : List Pr) (a m b : Nat) (w : World) (hO : Own base w (.slice (some ⟨g, 0, none⟩) xs.length cap) xs) (hm : b = m + 1) (hma : a + 1 < m) (hb : b ≤ xs.length) (hn : xs.length ≤ 1000) (hs : Srt xs a m) :
    Calls Try.prog 55 #[.slice (some ⟨g, 0, none⟩) xs.length cap, .int .i64 a, .int .i64 m, .int .i64 b, fn43] w (MergePost base g cap xs a b w) := by
  obtain ⟨N, hN⟩ : ∃ N, N = xs.length := ⟨_, rfl⟩
  rw [← hN] at hO hb hn ⊢
  obtain ⟨d, hd⟩ : ∃ d, d = m - a := ⟨_, rfl⟩
  have HN := Lib.hid hN
  have HM := Lib.hid hm
  have HS := Lib.hid hs
  have F0 : IntKind.i64.wrap ((m : Int) - (a : Int)) = (d : Int) := by rw [IntWalk.i64_in _ (by omega)]; omega
  have F00 : ((d : Int) == 1) = false := by rw [beq_eq_false_iff_ne]; omega
  have F9 : IntKind.i64.wrap ((b : Int) - (m : Int)) = 1 := by rw [IntWalk.i64_in _ (by omega)]; omega
  have hmN : m < N := by omega
  clear hN hm hs hd
  unfold fn43
  go_enter Try.func55, Try.ntmps55
  go_wp2_with fail
  clear F0 F00 F9
  go_loopw [14, 15] (fun vi vj wr => ∃ (i j : Nat), vi = .int .i64 i ∧ vj = .int .i64 j ∧ a ≤ i ∧ i ≤ j ∧ j ≤ m ∧ Hid (∀ q, a ≤ q → q < i → Le (kat xs q) (kat xs m)) ∧ Hid (∀ q, j ≤ q → q < m → Lt (kat xs m) (kat xs q)) ∧ Own base wr (.slice (some ⟨g, 0, none⟩) N cap) xs ∧ Keep [g] w wr) (fun vi vj wr => (intOf vj).toNat - (intOf vi).toNat)
  case atStart => exact ⟨a, m, rfl, rfl, Nat.le_refl _, by omega, Nat.le_refl _, Lib.hid (fun q h1 h2 => by omega), Lib.hid (fun q h1 h2 => by omega), hO, Keep.refl _ _⟩
  case round =>
    clear hO
    obtain ⟨i, j, rfl, rfl, hi, hij, hj, hlo, hhi, hO, hK⟩ := hrel
    by_cases hlt : i < j
    · obtain ⟨h, hh⟩ : ∃ h, h = (i + j) / 2 := ⟨_, rfl⟩
      have B1 : i ≤ h ∧ h < j := by omega
      have E1 : IntKind.i64.wrap ((i : Int) + (j : Int)) = (i : Int) + (j : Int) := IntWalk.i64_in _ (by omega)
      have E2 : ((i : Int) + (j : Int)) / 2 = (h : Int) := by omega
      have E3 : IntKind.i64.wrap ((h : Int) + 1) = ((h + 1 : Nat) : Int) := by rw [IntWalk.i64_in _ (by omega)]; omega
      clear hh
      obtain ⟨c0, c1, -, -⟩ := hO.two h (by have := HN.out; omega)
      obtain ⟨d0, d1, -, -⟩ := hO.two m (by have := HN.out; omega)
      have c0' : wr.drew.cell? ⟨g, h * 2, none⟩ = _ := c0
      have c1' : wr.drew.cell? ⟨g, h * 2 + 1, none⟩ = _ := c1
      have d0' : wr.drew.cell? ⟨g, m * 2, none⟩ = _ := d0
      have d1' : wr.drew.cell? ⟨g, m * 2 + 1, none⟩ = _ := d1
      have B2 : (h : Int) < (N : Int) := by omega
      have B3 : (m : Int) < (N : Int) := by omega
      go_wp2_with fail
      go_still_tail 9, (by kernel_rfl)
      change wpList _ _ _ _ _ wr.drew
      have hOd : Own base wr.drew (.slice (some ⟨g, 0, none⟩) N cap) xs := hO
      have hKd : Keep [g] w wr.drew := hK.trans (Keep.of_below (Below.refl _ wr).drew)
      clear c0 c1 d0 d1 c0' c1' d0' d1' hO hK E1 E2
      generalize wr.drew = wd at *
      go_wp2_with fail
      refine (cmp43 (pat xs m) (pat xs h) _).mono ?_
      rintro e w1 ⟨rfl, hb1⟩
      have hO1 : Own base w1 (.slice (some ⟨g, 0, none⟩) N cap) xs := own_keep hOd (Keep.of_below (X := []) hb1) (by simp)
      have hK1 : Keep [g] w w1 := hKd.trans (Keep.of_below hb1)
      clear hOd hKd hb1
      by_cases hcmp : cmpS (pat xs m).1 (pat xs h).1 < 0
      · have S : Hid (∀ q, h ≤ q → q < m → Lt (kat xs m) (kat xs q)) := Lib.hid (fun q q1 q2 => by
          have h0 : Lt (kat xs m) (kat xs h) := hcmp
          by_cases e : q = h
          · rw [e]; exact h0
          · exact h0.trans_le (HS.out h q (by omega) (by omega) q2))
        have hdec : decide (cmpS (pat xs m).1 (pat xs h).1 < 0) = true := decide_eq_true hcmp
        go_wp2_with fail
        refine ⟨⟨i, h, rfl, rfl, hi, by omega, by omega, hlo, S, hO1, hK1⟩, ?_⟩
        simp [intOf]; omega
      · have hge : 0 ≤ cmpS (pat xs m).1 (pat xs h).1 := by omega
        have S : Hid (∀ q, a ≤ q → q < h + 1 → Le (kat xs q) (kat xs m)) := Lib.hid (fun q q1 q2 => by
          have h0 : Le (kat xs h) (kat xs m) := hge
          by_cases e : q = h
          · rw [e]; exact h0
          · exact (HS.out q h q1 (by omega) (by omega)).trans h0)
        have hdec : decide (cmpS (pat xs m).1 (pat xs h).1 < 0) = false := decide_eq_false hcmp
        clear hcmp hge
        go_wp2_with fail
        refine ⟨⟨h + 1, j, by go_num, rfl, by omega, by omega, hj, S, hhi, hO1, hK1⟩, ?_⟩
        simp [intOf]; omega
    · obtain rfl : i = j := by omega
      go_wp2_with fail
      go_loopw [17] (fun vk wr => ∃ (k : Nat) (zs : List Pr), vk = .int .i64 k ∧ i ≤ k ∧ k ≤ m ∧ Hid (Dn xs zs m k) ∧ Own base wr (.slice (some ⟨g, 0, none⟩) N cap) zs ∧ Keep [g] w wr) (fun vk wr => (intOf vk).toNat)
      case atStart => exact ⟨m, xs, rfl, hj, Nat.le_refl _, Lib.hid (dn_start xs m), hO, hK⟩
      case round =>
        clear hO hK
        obtain ⟨k, zs, rfl, hk, hki, hU, hO, hK⟩ := hrel
        by_cases hlt2 : i < k
        · have hzl : zs.length = N := by have := hU.out.1; rw [HN.out]; exact this
          obtain ⟨kk, hkk⟩ : ∃ kk, k = kk + 1 := ⟨k - 1, by omega⟩
          have F1 : IntKind.i64.wrap ((k : Int) - 1) = (kk : Int) := by rw [IntWalk.i64_in _ (by omega)]; omega
          have F3 : (k : Int) < (N : Int) := by omega
          have F4 : (kk : Int) < (N : Int) := by omega
          obtain ⟨c0, c1, f0, f1⟩ := hO.two k (by omega)
          obtain ⟨d0, d1, e0, e1⟩ := hO.two kk (by omega)
          have hsw := Lib.hid (hO.swap k kk (by omega) (by omega))
          have hKs := Lib.hid (((((hK.trans (Keep.of_below (Below.refl _ wr).drew)).setCell (p := ⟨g, k * 2, none⟩) (by simp) (.string (pat zs kk).1)).setCell (p := ⟨g, k * 2 + 1, none⟩) (by simp) (.string (pat zs kk).2)).setCell (p := ⟨g, kk * 2, none⟩) (by simp) (.string (pat zs k).1)).setCell (p := ⟨g, kk * 2 + 1, none⟩) (by simp) (.string (pat zs k).2))
          have hUs : Hid (Dn xs (sw zs k kk) m kk) := Lib.hid (by
            have hU' := hU.out
            rw [hkk] at hU' ⊢
            exact dn_step hU' (by omega) (by have := HN.out; omega) (hhi.out kk (by omega) (by omega)))
          have n1 : k * 2 ≠ kk * 2 := by omega
          have n2 : k * 2 ≠ kk * 2 + 1 := by omega
          have n3 : k * 2 + 1 ≠ kk * 2 := by omega
          have n4 : k * 2 + 1 ≠ kk * 2 + 1 := by omega
          have n5 := Ne.symm n1
          have n6 := Ne.symm n2
          have n7 := Ne.symm n3
          have n8 := Ne.symm n4
          have bk : i ≤ kk ∧ kk ≤ m ∧ k = kk + 1 := by omega
          have HBK := Lib.hid bk
          clear hO hK hkk bk hzl
          go_wp2_with fail
          go_region
          all_goals
            go_wp2_with fail
            refine ⟨⟨kk, sw zs k kk, rfl, HBK.out.1, HBK.out.2.1, hUs, hsw.out, hKs.out⟩, ?_⟩
            have := HBK.out
            simp [intOf]; omega
        · obtain rfl : k = i := by omega
          go_wp2_with fail
          refine bodyPost_ret (results_none rfl _ _ _) rfl ?_
          have hfin := dn_end hU.out hi hki (by rw [← HN.out]; exact hmN) HS.out hlo.out hhi.out
          rw [HM.out]
          refine ⟨rfl, zs, ?_, hfin.1, hfin.2, hK⟩
          rw [← HN.out]; exact hO
end Go.Proofs.Ytfipifjlmepooaa
