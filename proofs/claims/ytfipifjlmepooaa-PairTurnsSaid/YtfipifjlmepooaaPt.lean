/- The merge of two sorted stretches of which one has one pair. -/
import Derived.Test.YtfipifjlmepooaaPs
namespace Go.Proofs.Ytfipifjlmepooaa
open Go.RowKit Go.Lib
set_option linter.unusedVariables false
set_option linter.unusedSimpArgs false
def MergePost (base g cap : Nat) (xs : List Pr) (a b : Nat) (w : World) (e : Ending) (w' : World) : Prop :=
  e = .returned (.tuple #[]) ∧ ∃ ys, Own base w' (.slice (some ⟨g, 0, none⟩) xs.length cap) ys ∧ Re xs ys a b ∧ Srt ys a b ∧ Keep [g] w w'

set_option maxRecDepth 100000 in
set_option maxHeartbeats 16000000 in
theorem merge1 (base g cap : Nat) (xs : List Pr) (a m b : Nat) (w : World) (hO : Own base w (.slice (some ⟨g, 0, none⟩) xs.length cap) xs) (hm : m = a + 1) (hmb : m < b) (hb : b ≤ xs.length) (hn : xs.length ≤ 1000) (hs : Srt xs m b) :
    Calls Try.prog 55 #[.slice (some ⟨g, 0, none⟩) xs.length cap, .int .i64 a, .int .i64 m, .int .i64 b, fn43] w (MergePost base g cap xs a b w) := by
  obtain ⟨N, hN⟩ : ∃ N, N = xs.length := ⟨_, rfl⟩
  rw [← hN] at hO hb hn ⊢
  have HN := Lib.hid hN
  have HM := Lib.hid hm
  have HS := Lib.hid hs
  have F0 : IntKind.i64.wrap ((m : Int) - (a : Int)) = 1 := by rw [IntWalk.i64_in _ (by omega)]; omega
  have hma : a < m := by omega
  have hm2 : m ≤ a + 1 := by omega
  clear hN hm hs
  unfold fn43
  go_enter Try.func55, Try.ntmps55
  go_wp2_with fail
  clear F0
  go_loopw [10, 11] (fun vi vj wr => ∃ (i j : Nat), vi = .int .i64 i ∧ vj = .int .i64 j ∧ m ≤ i ∧ i ≤ j ∧ j ≤ b ∧ Hid (∀ q, m ≤ q → q < i → Lt (kat xs q) (kat xs a)) ∧ Hid (∀ q, j ≤ q → q < b → Le (kat xs a) (kat xs q)) ∧ Own base wr (.slice (some ⟨g, 0, none⟩) N cap) xs ∧ Keep [g] w wr) (fun vi vj wr => (intOf vj).toNat - (intOf vi).toNat)
  case atStart => exact ⟨m, b, rfl, rfl, Nat.le_refl _, by omega, Nat.le_refl _, Lib.hid (fun q h1 h2 => by omega), Lib.hid (fun q h1 h2 => by omega), hO, Keep.refl _ _⟩
  case round =>
    clear hO
    obtain ⟨i, j, rfl, rfl, hi, hij, hj, hlo, hhi, hO, hK⟩ := hrel
    by_cases hlt : i < j
    · obtain ⟨h, hh⟩ : ∃ h, h = (i + j) / 2 := ⟨_, rfl⟩
      have B1 : i ≤ h ∧ h < j := by omega
      have E1 : IntKind.i64.wrap ((i : Int) + (j : Int)) = (i : Int) + (j : Int) := IntWalk.i64_in _ (by omega)
      have E2 : ((i : Int) + (j : Int)) / 2 = (h : Int) := by omega
      have E3 : IntKind.i64.wrap ((h : Int) + 1) = ((h + 1 : Nat) : Int) := by rw [IntWalk.i64_in _ (by omega)]; omega
      clear hh
      obtain ⟨c0, c1, -, -⟩ := hO.two h (by have := HN.out; omega)
      obtain ⟨d0, d1, -, -⟩ := hO.two a (by have := HN.out; omega)
      have c0' : wr.drew.cell? ⟨g, h * 2, none⟩ = _ := c0
      have c1' : wr.drew.cell? ⟨g, h * 2 + 1, none⟩ = _ := c1
      have d0' : wr.drew.cell? ⟨g, a * 2, none⟩ = _ := d0
      have d1' : wr.drew.cell? ⟨g, a * 2 + 1, none⟩ = _ := d1
      have B2 : (h : Int) < (N : Int) := by omega
      have B3 : (a : Int) < (N : Int) := by omega
      go_wp2_with fail
      go_still_tail 9, (by kernel_rfl)
      change wpList _ _ _ _ _ wr.drew
      have hOd : Own base wr.drew (.slice (some ⟨g, 0, none⟩) N cap) xs := hO
      have hKd : Keep [g] w wr.drew := hK.trans (Keep.of_below (Below.refl _ wr).drew)
      clear c0 c1 d0 d1 c0' c1' d0' d1' hO hK E1 E2
      generalize wr.drew = wd at *
      go_wp2_with fail
      refine (cmp43 (pat xs h) (pat xs a) _).mono ?_
      rintro e w1 ⟨rfl, hb1⟩
      have hO1 : Own base w1 (.slice (some ⟨g, 0, none⟩) N cap) xs := own_keep hOd (Keep.of_below (X := []) hb1) (by simp)
      have hK1 : Keep [g] w w1 := hKd.trans (Keep.of_below hb1)
      clear hOd hKd hb1
      by_cases hcmp : cmpS (pat xs h).1 (pat xs a).1 < 0
      · have S : Hid (∀ q, m ≤ q → q < h + 1 → Lt (kat xs q) (kat xs a)) := Lib.hid (fun q q1 q2 => by
          by_cases e : q = h
          · rw [e]; exact hcmp
          · exact (HS.out q h q1 (by omega) (by omega)).trans_lt hcmp)
        go_wp2_with fail
        refine ⟨⟨h + 1, j, by go_num, rfl, by omega, by omega, hj, S, hhi, hO1, hK1⟩, ?_⟩
        simp [intOf]; omega
      · have hge : 0 ≤ cmpS (pat xs h).1 (pat xs a).1 := by omega
        have S : Hid (∀ q, h ≤ q → q < b → Le (kat xs a) (kat xs q)) := Lib.hid (fun q q1 q2 => by
          have h0 : Le (kat xs a) (kat xs h) := hge
          by_cases e : q = h
          · rw [e]; exact h0
          · exact h0.trans (HS.out h q (by omega) (by omega) q2))
        go_wp2_with fail
        refine ⟨⟨i, h, rfl, rfl, hi, by omega, by omega, hlo, S, hO1, hK1⟩, ?_⟩
        simp [intOf]; omega
    · obtain rfl : i = j := by omega
      have E1 : IntKind.i64.wrap ((i : Int) - 1) = ((i - 1 : Nat) : Int) := by rw [IntWalk.i64_in _ (by omega)]; omega
      obtain ⟨i1, hi1⟩ : ∃ i1, i1 = i - 1 := ⟨_, rfl⟩
      rw [← hi1] at E1
      have B0 : i1 + 1 = i := by omega
      have HI1 := Lib.hid hi1
      clear hi1
      go_wp2_with fail
      go_loopw [13] (fun vk wr => ∃ (k : Nat) (zs : List Pr), vk = .int .i64 k ∧ a ≤ k ∧ k ≤ i1 ∧ Hid (Up xs zs a k) ∧ Own base wr (.slice (some ⟨g, 0, none⟩) N cap) zs ∧ Keep [g] w wr) (fun vk wr => i1 - (intOf vk).toNat)
      case atStart => exact ⟨a, xs, rfl, Nat.le_refl _, by omega, Lib.hid (up_start xs a), hO, hK⟩
      case round =>
        clear hO hK
        obtain ⟨k, zs, rfl, hk, hki, hU, hO, hK⟩ := hrel
        by_cases hlt2 : k < i1
        · have hzl : zs.length = N := by have := hU.out.1; rw [HN.out]; exact this
          obtain ⟨kk, hkk⟩ : ∃ kk, kk = k + 1 := ⟨_, rfl⟩
          have F1 : IntKind.i64.wrap ((k : Int) + 1) = (kk : Int) := by rw [IntWalk.i64_in _ (by omega)]; omega
          have F3 : (k : Int) < (N : Int) := by omega
          have F4 : (kk : Int) < (N : Int) := by omega
          obtain ⟨c0, c1, f0, f1⟩ := hO.two k (by omega)
          obtain ⟨d0, d1, e0, e1⟩ := hO.two kk (by omega)
          have hsw := Lib.hid (hO.swap k kk (by omega) (by omega))
          have hKs := Lib.hid (((((hK.trans (Keep.of_below (Below.refl _ wr).drew)).setCell (p := ⟨g, k * 2, none⟩) (by simp) (.string (pat zs kk).1)).setCell (p := ⟨g, k * 2 + 1, none⟩) (by simp) (.string (pat zs kk).2)).setCell (p := ⟨g, kk * 2, none⟩) (by simp) (.string (pat zs k).1)).setCell (p := ⟨g, kk * 2 + 1, none⟩) (by simp) (.string (pat zs k).2))
          have hUs : Hid (Up xs (sw zs k kk) a kk) := Lib.hid (by
            rw [hkk]
            exact up_step hU.out hk (by have := HN.out; omega) (hlo.out (k + 1) (by omega) (by omega)))
          have n1 : k * 2 ≠ kk * 2 := by omega
          have n2 : k * 2 ≠ kk * 2 + 1 := by omega
          have n3 : k * 2 + 1 ≠ kk * 2 := by omega
          have n4 : k * 2 + 1 ≠ kk * 2 + 1 := by omega
          have n5 := Ne.symm n1
          have n6 := Ne.symm n2
          have n7 := Ne.symm n3
          have n8 := Ne.symm n4
          have bk : kk ≤ i1 ∧ a ≤ kk ∧ kk = k + 1 := by omega
          have HBK := Lib.hid bk
          clear hO hK hkk bk hzl
          go_wp2_with fail
          go_region
          all_goals
            go_wp2_with fail
            refine ⟨⟨kk, sw zs k kk, rfl, HBK.out.2.1, HBK.out.1, hUs, hsw.out, hKs.out⟩, ?_⟩
            have := HBK.out
            simp [intOf]; omega
        · obtain rfl : k = i1 := by omega
          go_wp2_with fail
          refine bodyPost_ret (results_none rfl _ _ _) rfl ?_
          have hU' := hU.out
          rw [show k = i - 1 by omega] at hU'
          have hfin := up_end hU' (by omega) hj (by rw [← HN.out]; exact hb) (by have := HM.out; rw [← this]; exact HS.out) (fun q q1 q2 => hlo.out q (by omega) q2) hhi.out
          refine ⟨rfl, zs, ?_, hfin.1, hfin.2, hK⟩
          rw [← HN.out]; exact hO
end Go.Proofs.Ytfipifjlmepooaa
