/- The merge of two sorted stretches. -/
import Derived.Test.YtfipifjlmepooaaPx3
namespace Go.Proofs.Ytfipifjlmepooaa
open Go.RowKit Go.Lib
set_option linter.unusedVariables false
set_option linter.unusedSimpArgs false

set_option maxRecDepth 100000 in
set_option maxHeartbeats 32000000 in
theorem symMerge (dd : Nat) : ∀ (base g cap : Nat) (xs : List Pr) (a m b : Nat) (w : World), b - a ≤ dd → Own base w (.slice (some ⟨g, 0, none⟩) xs.length cap) xs → a < m → m < b → b ≤ xs.length → xs.length ≤ 1000 → Srt xs a m → Srt xs m b →
    Calls Try.prog 55 #[.slice (some ⟨g, 0, none⟩) xs.length cap, .int .i64 a, .int .i64 m, .int .i64 b, fn43] w (MergePost base g cap xs a b w) := by
  induction dd with
  | zero => intro base g cap xs a m b w hd hO ham hmb; omega
  | succ dd ih =>
    intro base g cap xs a m b w hdd hO ham hmb hb hn hs1 hs2
    by_cases c1 : m = a + 1
    · exact merge1 base g cap xs a m b w hO c1 hmb hb hn hs2
    by_cases c2 : b = m + 1
    · exact merge2 base g cap xs a m b w hO c2 (by omega) hb hn hs1
    obtain ⟨N, hN⟩ : ∃ N, N = xs.length := ⟨_, rfl⟩
    have HN := Lib.hid hN
    rw [← hN] at hO hb hn ⊢
    have IH := Lib.hid ih
    have HS1 := Lib.hid hs1
    have HS2 := Lib.hid hs2
    obtain ⟨d1, hd1⟩ : ∃ d, d = m - a := ⟨_, rfl⟩
    obtain ⟨d2, hd2⟩ : ∃ d, d = b - m := ⟨_, rfl⟩
    obtain ⟨mid, hmid⟩ : ∃ mid, mid = (a + b) / 2 := ⟨_, rfl⟩
    obtain ⟨n, hnn⟩ : ∃ n, n = mid + m := ⟨_, rfl⟩
    obtain ⟨p, hp⟩ : ∃ p, p + 1 = n := ⟨n - 1, by omega⟩
    have HB := Lib.hid (bnd_of a m b mid ham hmb hmid)
    have F0 : IntKind.i64.wrap ((m : Int) - (a : Int)) = (d1 : Int) := by rw [IntWalk.i64_in _ (by omega)]; omega
    have F00 : ((d1 : Int) == 1) = false := by rw [beq_eq_false_iff_ne]; omega
    have F9 : IntKind.i64.wrap ((b : Int) - (m : Int)) = (d2 : Int) := by rw [IntWalk.i64_in _ (by omega)]; omega
    have F99 : ((d2 : Int) == 1) = false := by rw [beq_eq_false_iff_ne]; omega
    have G1 : IntKind.i64.wrap ((a : Int) + (b : Int)) = (a : Int) + (b : Int) := IntWalk.i64_in _ (by omega)
    have G2 : ((a : Int) + (b : Int)) / 2 = (mid : Int) := by omega
    have G3 : IntKind.i64.wrap ((mid : Int) + (m : Int)) = (n : Int) := by rw [IntWalk.i64_in _ (by omega)]; omega
    have G4 : IntKind.i64.wrap ((n : Int) - 1) = (p : Int) := by rw [IntWalk.i64_in _ (by omega)]; omega
    have HM := Lib.hid (show mid = (a + b) / 2 ∧ n = mid + m ∧ p + 1 = n ∧ m ≠ a + 1 ∧ b ≠ m + 1 ∧ a < mid ∧ mid < b from ⟨hmid, hnn, hp, c1, c2, by omega, by omega⟩)
    clear hN ih hs1 hs2 hd1 hd2 hmid hnn hp c1 c2
    unfold fn43
    go_enter Try.func55, Try.ntmps55
    go_upto_if 140 with (fail)
    clear F0 F00 F9 F99 G1 G2 G3
    go_cut [20, 21] (fun vs vr wx => ∃ s0 r0 : Nat, vs = .int .i64 s0 ∧ vr = .int .i64 r0 ∧ Hid (Bnd a m b mid s0 r0) ∧ w = wx)
    case first =>
      by_cases c : mid < m
      · have G5 : IntKind.i64.wrap ((n : Int) - (b : Int)) = ((mid + m - b : Nat) : Int) := by
          have := HM.out
          rw [IntWalk.i64_in _ (by omega)]; omega
        obtain ⟨s0, hs0⟩ : ∃ s0, s0 = mid + m - b := ⟨_, rfl⟩
        rw [← hs0] at G5
        have hBB := Lib.hid (HB.out.1 c)
        rw [← hs0] at hBB
        clear hs0
        go_wp2_with fail
        go_meet
        exact ⟨s0, mid, rfl, rfl, hBB, rfl⟩
      · have hBB := Lib.hid (HB.out.2 (by omega))
        go_wp2_with fail
        go_meet
        exact ⟨a, m, rfl, rfl, hBB, rfl⟩
    case rest =>
      obtain ⟨s0, r0, rfl, rfl, hBn, rfl⟩ := hcut
      clear HB
      have bb : a ≤ s0 ∧ s0 ≤ r0 ∧ r0 ≤ m := ⟨hBn.out.h1, hBn.out.h2, hBn.out.h3⟩
      go_wp2_with fail
      clear G4
      go_loopw [20, 21] (fun vs vr wr => ∃ (s r : Nat), vs = .int .i64 s ∧ vr = .int .i64 r ∧ s0 ≤ s ∧ s ≤ r ∧ r ≤ r0 ∧ Hid (Fnd xs p s0 r0 s r) ∧ Own base wr (.slice (some ⟨g, 0, none⟩) N cap) xs ∧ Keep [g] w wr) (fun vs vr wr => (intOf vr).toNat - (intOf vs).toNat)
      case atStart => exact ⟨s0, r0, rfl, rfl, Nat.le_refl _, bb.2.1, Nat.le_refl _, Lib.hid ⟨fun c h1 h2 => by omega, fun c h1 h2 => by omega⟩, hO, Keep.refl _ _⟩
      case round =>
        clear hO
        obtain ⟨s, r, rfl, rfl, hs0, hsr, hr0, hF, hO, hK⟩ := hrel
        by_cases hlt : s < r
        · obtain ⟨c, hc⟩ : ∃ c, c = (s + r) / 2 := ⟨_, rfl⟩
          have B1 : s ≤ c ∧ c < r := by omega
          obtain ⟨q, hq⟩ : ∃ q, q = p - c := ⟨_, rfl⟩
          have bq : q < N ∧ c < N ∧ q + c = p := by
            have := HM.out
            have h5 := hBn.out.h5
            have h4 := hBn.out.h4
            omega
          have E1 : IntKind.i64.wrap ((s : Int) + (r : Int)) = (s : Int) + (r : Int) := IntWalk.i64_in _ (by omega)
          have E2 : ((s : Int) + (r : Int)) / 2 = (c : Int) := by omega
          have E3 : IntKind.i64.wrap ((c : Int) + 1) = ((c + 1 : Nat) : Int) := by rw [IntWalk.i64_in _ (by omega)]; omega
          have E4 : IntKind.i64.wrap ((p : Int) - (c : Int)) = (q : Int) := by rw [IntWalk.i64_in _ (by omega)]; omega
          have HQ := Lib.hid hq
          have B2 : (c : Int) < (N : Int) := by omega
          have B3 : (q : Int) < (N : Int) := by omega
          obtain ⟨c0, c1, -, -⟩ := hO.two c (by have := HN.out; omega)
          obtain ⟨d0, d1, -, -⟩ := hO.two q (by have := HN.out; omega)
          have c0' : wr.drew.cell? ⟨g, c * 2, none⟩ = _ := c0
          have c1' : wr.drew.cell? ⟨g, c * 2 + 1, none⟩ = _ := c1
          have d0' : wr.drew.cell? ⟨g, q * 2, none⟩ = _ := d0
          have d1' : wr.drew.cell? ⟨g, q * 2 + 1, none⟩ = _ := d1
          clear hc hq bq
          go_wp2_with fail
          go_still_tail 11, (by kernel_rfl)
          change wpList _ _ _ _ _ wr.drew
          have hOd : Own base wr.drew (.slice (some ⟨g, 0, none⟩) N cap) xs := hO
          have hKd : Keep [g] w wr.drew := hK.trans (Keep.of_below (Below.refl _ wr).drew)
          clear c0 c1 d0 d1 c0' c1' d0' d1' hO hK E1 E2 E4
          generalize wr.drew = wd at *
          go_wp2_with fail
          refine (cmp43 (pat xs q) (pat xs c) _).mono ?_
          rintro e w1 ⟨rfl, hb1⟩
          have hO1 : Own base w1 (.slice (some ⟨g, 0, none⟩) N cap) xs := own_keep hOd (Keep.of_below (X := []) hb1) (by simp)
          have hK1 : Keep [g] w w1 := hKd.trans (Keep.of_below hb1)
          clear hOd hKd hb1
          have hpp : p + 1 = mid + m := by have := HM.out; omega
          by_cases hcmp : cmpS (pat xs q).1 (pat xs c).1 < 0
          · have S : Hid (Fnd xs p s0 r0 s c) := Lib.hid (fnd_dn hBn.out hpp hmb HS1.out HS2.out hF.out (by omega) (by rw [← HQ.out]; exact hcmp))
            have hdec : decide (cmpS (pat xs q).1 (pat xs c).1 < 0) = true := decide_eq_true hcmp
            clear hpp
            go_wp2_with fail
            refine ⟨⟨s, c, rfl, rfl, hs0, by omega, by omega, S, hO1, hK1⟩, ?_⟩
            simp [intOf]; omega
          · have S : Hid (Fnd xs p s0 r0 (c + 1) r) := Lib.hid (fnd_up hBn.out hpp hmb HS1.out HS2.out hF.out (by omega) (by rw [← HQ.out]; exact not_lt_le hcmp))
            have hdec : decide (cmpS (pat xs q).1 (pat xs c).1 < 0) = false := decide_eq_false hcmp
            clear hpp hcmp
            go_wp2_with fail
            refine ⟨⟨c + 1, r, by go_num, rfl, by omega, by omega, hr0, S, hO1, hK1⟩, ?_⟩
            simp [intOf]; omega
        · obtain rfl : s = r := by omega
          obtain ⟨e, he⟩ : ∃ e, e = n - s := ⟨_, rfl⟩
          have hbase := HM.out
          have hes : e + s = mid + m := by
            have h4 := hBn.out.h4
            omega
          have hfe := fnd_end hBn.out (by omega) ham hmb hF.out ⟨hs0, hr0⟩ hes
          have E5 : IntKind.i64.wrap ((n : Int) - (s : Int)) = (e : Int) := by rw [IntWalk.i64_in _ (by omega)]; omega
          have HFE := Lib.hid hfe
          have bds : a ≤ s ∧ s ≤ m ∧ m ≤ e ∧ e ≤ b ∧ s ≤ mid ∧ mid ≤ e := ⟨hfe.1, hfe.2.1, hfe.2.2.1, hfe.2.2.2.1, hfe.2.2.2.2.1, hfe.2.2.2.2.2.1⟩
          have HES := Lib.hid hes
          clear hbase hes hfe he hF hBn bb
          have hmm : a < mid ∧ mid < b := ⟨HM.out.2.2.2.2.2.1, HM.out.2.2.2.2.2.2⟩
          have HT := Lib.hid (symTail dd base g cap xs a m b mid n s e N w wr IH (by omega) ham hmb HN hb hn HS1 HS2 hmm E5 HFE HES hO hK)
          repeat (first | exact HT.out _ _ _ _ _ _ _ _ _ _ _ _ _ _ _ _ _ _ _ _ _ _ _ _ _ _ _ _ _ _ _ _ _ _ _ _ _ _ _ _ _ _ _ _ _ _ _ _ _ _ _ _ _ _ _ _ _ _ _ _ _ _ _ _ _ _ _ _ _ _ _ _ _ _ _ _ _ _ _ _ _ _ _ _ _ _ _ _ _ _ _ _ _ _ _ _ _ _ _ _ _ _ _ _ _ _ _ _ _ _ _ _ _ _ _ _ _ _ _ _ _ _ _ _ _ _ _ _ _ _ _ _ _ _ _ _ _ _ _ _ _ _ _ _ _ _ _ _ _ _ _ _ _ _ _ _ _ _ _ _ _ _ _ _ _ _ _ _ _ _ _ _ _ _ _ _ _ _ _ _ _ _ _ _ _ _ _ _ _ _ _ _ _ _ _ _ _ _ _ _ _ _ _ _ _ _ _ _ _ _ _ _ | go_step)
end Go.Proofs.Ytfipifjlmepooaa
