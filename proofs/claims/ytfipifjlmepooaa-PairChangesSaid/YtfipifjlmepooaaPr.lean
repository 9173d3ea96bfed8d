/- Two stretches of a list of pairs change places: swapRange and rotate. -/
import Derived.Test.YtfipifjlmepooaaPc
namespace Go.Proofs.Ytfipifjlmepooaa
open Go.RowKit Go.Lib
set_option linter.unusedVariables false
set_option linter.unusedSimpArgs false

theorem pat_mid (A B : List Pr) (x : Pr) : pat (A ++ x :: B) A.length = x := by simp [pat]
theorem sw_mid (A B C : List Pr) (x y : Pr) (i j : Nat) (hi : i = A.length) (hj : j = A.length + 1 + B.length) : sw (A ++ x :: (B ++ y :: C)) i j = A ++ y :: (B ++ x :: C) := by
  subst hi hj
  have e1 : pat (A ++ x :: (B ++ y :: C)) A.length = x := pat_mid A _ x
  have e2 : pat (A ++ x :: (B ++ y :: C)) (A.length + 1 + B.length) = y := by
    have := pat_mid (A ++ x :: B) C y
    rw [show (A ++ x :: B).length = A.length + 1 + B.length by simp; omega] at this
    rw [show A ++ x :: (B ++ y :: C) = (A ++ x :: B) ++ y :: C by simp]
    exact this
  unfold sw
  rw [e1, e2]
  rw [show (A ++ x :: (B ++ y :: C)).set A.length y = A ++ y :: (B ++ y :: C) by simp]
  rw [show A ++ y :: (B ++ y :: C) = (A ++ y :: B) ++ y :: C by simp]
  rw [show A.length + 1 + B.length = (A ++ y :: B).length by simp; omega]
  simp
/-- i pairs of u and of v have changed places -/
def mixd (L u M v R : List Pr) (i : Nat) : List Pr := L ++ (v.take i ++ u.drop i) ++ M ++ (u.take i ++ v.drop i) ++ R
theorem mixd_step (L u M v R : List Pr) (i : Nat) (h : u.length = v.length) (hi : i < u.length) (a b : Nat) (ha : a = L.length + i) (hb : b = L.length + u.length + M.length + i) :
    sw (mixd L u M v R i) a b = mixd L u M v R (i + 1) := by
  have hv : i < v.length := by omega
  have eu : u.drop i = u[i] :: u.drop (i + 1) := List.drop_eq_getElem_cons hi
  have ev : v.drop i = v[i] :: v.drop (i + 1) := List.drop_eq_getElem_cons hv
  have e1 : mixd L u M v R i = (L ++ v.take i) ++ u[i] :: ((u.drop (i + 1) ++ M ++ u.take i) ++ v[i] :: (v.drop (i + 1) ++ R)) := by
    unfold mixd; rw [eu, ev]; simp only [List.append_assoc, List.cons_append]
  have e2 : mixd L u M v R (i + 1) = (L ++ v.take i) ++ v[i] :: ((u.drop (i + 1) ++ M ++ u.take i) ++ u[i] :: (v.drop (i + 1) ++ R)) := by
    unfold mixd
    rw [List.take_succ_eq_append_getElem hi, List.take_succ_eq_append_getElem hv]
    simp only [List.append_assoc, List.cons_append, List.nil_append]
  rw [e1, e2]
  refine sw_mid _ _ _ _ _ _ _ ?_ ?_
  · rw [List.length_append, List.length_take]; omega
  · simp only [List.length_append, List.length_take, List.length_drop]; omega
theorem mixd_length (L u M v R : List Pr) (i : Nat) (h : u.length = v.length) (hi : i ≤ u.length) : (mixd L u M v R i).length = L.length + u.length + M.length + u.length + R.length := by
  unfold mixd
  simp only [List.length_append, List.length_take, List.length_drop]; omega

set_option maxRecDepth 100000 in
set_option maxHeartbeats 8000000 in
theorem swapRange (base g cap : Nat) (L u M v R : List Pr) (N : Nat) (w : World) (hN : N = L.length + u.length + M.length + u.length + R.length) (huv : u.length = v.length) (hn : N ≤ 1000)
    (hO : Own base w (.slice (some ⟨g, 0, none⟩) N cap) (L ++ u ++ M ++ v ++ R)) (f : Value) (a b : Nat) (ha : a = L.length) (hb : b = L.length + u.length + M.length) :
    Calls Try.prog 58 #[.slice (some ⟨g, 0, none⟩) N cap, .int .i64 a, .int .i64 b, .int .i64 u.length, f] w fun e w' =>
      e = .returned (.tuple #[]) ∧ Own base w' (.slice (some ⟨g, 0, none⟩) N cap) (L ++ v ++ M ++ u ++ R) ∧ Keep [g] w w' := by
  obtain ⟨n, hnu⟩ : ∃ n, n = u.length := ⟨_, rfl⟩
  rw [← hnu]
  have H1 := Lib.hid hN
  have H2 := Lib.hid huv
  have H3 := Lib.hid hnu
  have H4 := Lib.hid ha
  have H5 := Lib.hid hb
  have bnd : a + n ≤ N ∧ b + n ≤ N ∧ a + n ≤ b := by omega
  clear hN huv hnu ha hb
  go_enter Try.func58, Try.ntmps58
  go_wp2_with fail
  go_loopw [10] (fun i wr => ∃ k : Nat, k ≤ n ∧ i = .int .i64 k ∧ Own base wr (.slice (some ⟨g, 0, none⟩) N cap) (mixd L u M v R k) ∧ Keep [g] w wr) (fun i wr => n - (intOf i).toNat)
  case atStart => exact ⟨0, by omega, rfl, by simpa [mixd] using hO, Keep.refl _ _⟩
  case round =>
    clear hO
    obtain ⟨k, hk, rfl, hO, hK⟩ := hrel
    by_cases hlt : k < n
    · have hlen : (mixd L u M v R k).length = N := by
        have e3 := H3.out
        rw [mixd_length _ _ _ _ _ _ H2.out (by omega)]; exact H1.out.symm
      have hstep := Lib.hid (mixd_step L u M v R k H2.out (by have := H3.out; omega) (a + k) (b + k) (by have := H4.out; omega) (by have := H5.out; omega))
      obtain ⟨i, hi⟩ : ∃ i, i = a + k := ⟨_, rfl⟩
      obtain ⟨j, hj⟩ : ∃ j, j = b + k := ⟨_, rfl⟩
      have F1 : IntKind.i64.wrap ((a : Int) + (k : Int)) = (i : Int) := by rw [IntWalk.i64_in _ (by omega)]; omega
      have F2 : IntKind.i64.wrap ((b : Int) + (k : Int)) = (j : Int) := by rw [IntWalk.i64_in _ (by omega)]; omega
      have F3 : (i : Int) < (N : Int) := by omega
      have F4 : (j : Int) < (N : Int) := by omega
      have F5 : IntKind.i64.wrap ((k : Int) + 1) = ((k + 1 : Nat) : Int) := by rw [IntWalk.i64_in _ (by omega)]; omega
      obtain ⟨c0, c1, f0, f1⟩ := hO.two i (by omega)
      obtain ⟨d0, d1, e0, e1⟩ := hO.two j (by omega)
      have hsw := Lib.hid (hO.swap i j (by omega) (by omega))
      have hKs := Lib.hid (((((hK.trans (Keep.of_below (Below.refl _ wr).drew)).setCell (p := ⟨g, i * 2, none⟩) (by simp) (.string (pat (mixd L u M v R k) j).1)).setCell (p := ⟨g, i * 2 + 1, none⟩) (by simp) (.string (pat (mixd L u M v R k) j).2)).setCell (p := ⟨g, j * 2, none⟩) (by simp) (.string (pat (mixd L u M v R k) i).1)).setCell (p := ⟨g, j * 2 + 1, none⟩) (by simp) (.string (pat (mixd L u M v R k) i).2))
      have hji : j ≠ i := by omega
      rw [← hi, ← hj] at hstep
      have n1 : i * 2 ≠ j * 2 := by omega
      have n2 : i * 2 ≠ j * 2 + 1 := by omega
      have n3 : i * 2 + 1 ≠ j * 2 := by omega
      have n4 : i * 2 + 1 ≠ j * 2 + 1 := by omega
      have n5 := Ne.symm n1
      have n6 := Ne.symm n2
      have n7 := Ne.symm n3
      have n8 := Ne.symm n4
      clear hO hK hlen hi hj hji
      generalize mixd L u M v R k = zs at *
      generalize hp : pat zs i = pi at *
      generalize hq : pat zs j = pj at *
      have HP := Lib.hid hp
      have HQ := Lib.hid hq
      clear hp hq
      go_wp2_with fail
      go_region
      all_goals
        go_wp2_with fail
        refine ⟨⟨k + 1, by omega, by go_num, ?_, hKs.out⟩, by simp [intOf]; omega⟩
        rw [← hstep.out]
        exact hsw.out
    · obtain rfl : k = n := by omega
      go_wp2_with fail
      go_end0
      refine ⟨rfl, ?_, hK⟩
      have e3 := H3.out
      have e2 := H2.out
      have : mixd L u M v R k = L ++ v ++ M ++ u ++ R := by
        unfold mixd
        rw [List.take_of_length_le (by omega), List.take_of_length_le (by omega), List.drop_of_length_le (by omega), List.drop_of_length_le (by omega)]
        simp
      rw [← this]; exact hO

set_option maxRecDepth 100000 in
set_option maxHeartbeats 8000000 in
theorem rotate (base g cap : Nat) (L u v R : List Pr) (N : Nat) (w : World) (hN : N = L.length + u.length + v.length + R.length) (hn : N ≤ 1000) (hu : 0 < u.length) (hv : 0 < v.length)
    (hO : Own base w (.slice (some ⟨g, 0, none⟩) N cap) (L ++ u ++ v ++ R)) (f : Value) (a m b : Nat) (ha : a = L.length) (hm : m = L.length + u.length) (hb : b = L.length + u.length + v.length) :
    Calls Try.prog 57 #[.slice (some ⟨g, 0, none⟩) N cap, .int .i64 a, .int .i64 m, .int .i64 b, f] w fun e w' =>
      e = .returned (.tuple #[]) ∧ Own base w' (.slice (some ⟨g, 0, none⟩) N cap) (L ++ v ++ u ++ R) ∧ Keep [g] w w' := by
  have F1 : IntKind.i64.wrap ((m : Int) - (a : Int)) = (u.length : Int) := by rw [IntWalk.i64_in _ (by omega)]; omega
  have F2 : IntKind.i64.wrap ((b : Int) - (m : Int)) = (v.length : Int) := by rw [IntWalk.i64_in _ (by omega)]; omega
  obtain ⟨T, hT⟩ : ∃ T, T = L ++ v ++ u ++ R := ⟨_, rfl⟩
  rw [← hT]
  have HN := Lib.hid hN
  have HM := Lib.hid hm
  have HT := Lib.hid hT
  clear hN hm hT ha hb
  go_enter Try.func57, Try.ntmps57
  go_wp2_with fail
  go_loopw [10, 11] (fun i j wr => ∃ (Lc uc vc Rc : List Pr), i = .int .i64 uc.length ∧ j = .int .i64 vc.length ∧ 0 < uc.length ∧ 0 < vc.length ∧ Hid (N = Lc.length + uc.length + vc.length + Rc.length) ∧ Hid (m = Lc.length + uc.length) ∧ Hid (T = Lc ++ vc ++ uc ++ Rc) ∧ Own base wr (.slice (some ⟨g, 0, none⟩) N cap) (Lc ++ uc ++ vc ++ Rc) ∧ Keep [g] w wr) (fun i j wr => (intOf i).toNat + (intOf j).toNat)
  case atStart => exact ⟨L, u, v, R, rfl, rfl, hu, hv, HN, HM, HT, hO, Keep.refl _ _⟩
  case round =>
    clear hO F1 F2 hu hv HN HM HT
    obtain ⟨Lc, uc, vc, Rc, rfl, rfl, hu, hv, hN, hm, hT, hO, hK⟩ := hrel
    obtain ⟨i, hi⟩ : ∃ i, i = uc.length := ⟨_, rfl⟩
    obtain ⟨j, hj⟩ : ∃ j, j = vc.length := ⟨_, rfl⟩
    rw [← hi] at hu
    rw [← hj] at hv
    rw [← hi, ← hj]
    have hNo := hN.out
    have hmo := hm.out
    have G1 : IntKind.i64.wrap ((m : Int) - (i : Int)) = (Lc.length : Int) := by rw [IntWalk.i64_in _ (by omega)]; omega
    by_cases hij : i = j
    · have hsr := fun W hW => swapRange base g cap Lc uc [] vc Rc N W (by simp; omega) (by omega) hn hW f Lc.length m rfl (by simp; omega)
      rw [← hi] at hsr
      have hO' : Own base wr (.slice (some ⟨g, 0, none⟩) N cap) (Lc ++ uc ++ [] ++ vc ++ Rc) := by simpa using hO
      have HI := Lib.hid hi
      have HJ := Lib.hid hj
      have HIJ := Lib.hid hij
      have F3 : ((i : Int) == (j : Int)) = true := by rw [beq_iff_eq]; omega
      clear hi hj hNo hmo hij
      go_wp2_with fail
      refine (hsr _ hO').mono ?_
      rintro e w1 ⟨rfl, hO1, hK1⟩
      go_wp2_with fail
      go_end0
      refine ⟨rfl, ?_, hK.trans hK1⟩
      rw [hT.out]
      simpa using hO1
    · by_cases hgt : j < i
      · -- the first is longer: its head changes places with the second
        have eu : uc = uc.take j ++ uc.drop j := (List.take_append_drop j uc).symm
        have lt1 : (uc.take j).length = j := by rw [List.length_take]; omega
        have ld1 : (uc.drop j).length = i - j := by rw [List.length_drop]; omega
        have hsr := fun W hW => swapRange base g cap Lc (uc.take j) (uc.drop j) vc Rc N W (by rw [lt1, ld1]; omega) (by rw [lt1]; exact hj) hn hW f Lc.length m rfl (by rw [lt1, ld1]; omega)
        rw [lt1] at hsr
        have hO' : Own base wr (.slice (some ⟨g, 0, none⟩) N cap) (Lc ++ uc.take j ++ uc.drop j ++ vc ++ Rc) := by
          rw [List.append_assoc Lc, ← eu]; exact hO
        have G2 : IntKind.i64.wrap ((i : Int) - (j : Int)) = (((uc.drop j).length : Nat) : Int) := by rw [IntWalk.i64_in _ (by omega), ld1]; omega
        have F3 : ((i : Int) == (j : Int)) = false := by rw [beq_eq_false_iff_ne]; omega
        have F4 : (j : Int) < (i : Int) := by omega
        have fin : Hid (0 < (uc.drop j).length ∧ N = (Lc ++ vc).length + (uc.drop j).length + (uc.take j).length + Rc.length ∧ m = (Lc ++ vc).length + (uc.drop j).length ∧ T = (Lc ++ vc) ++ uc.take j ++ uc.drop j ++ Rc) := Lib.hid (by
          refine ⟨by omega, by simp only [List.length_append]; omega, by simp only [List.length_append]; omega, ?_⟩
          rw [hT.out]
          conv => lhs; rw [eu]
          simp only [List.append_assoc])
        have HI := Lib.hid hi
        have HJ := Lib.hid (show j = (uc.take j).length from lt1.symm)
        have HL := Lib.hid ld1
        generalize uc.take j = u1 at *
        generalize uc.drop j = u2 at *
        clear hi hj hNo hmo hij eu lt1 ld1 hO
        go_wp2_with fail
        refine (hsr _ hO').mono ?_
        rintro e w1 ⟨rfl, hO1, hK1⟩
        go_wp2_with fail
        refine ⟨⟨Lc ++ vc, u2, u1, Rc, rfl, by rw [← HJ.out], fin.out.1, by have := HJ.out; omega, Lib.hid fin.out.2.1, Lib.hid fin.out.2.2.1, Lib.hid fin.out.2.2.2, hO1, hK.trans hK1⟩, ?_⟩
        have := HL.out
        simp [intOf]
        omega
      · -- the second is longer: its end changes places with the first
        have hd : j - i + i = j := by omega
        have ev : vc = vc.take (j - i) ++ vc.drop (j - i) := (List.take_append_drop (j - i) vc).symm
        have lt1 : (vc.take (j - i)).length = j - i := by rw [List.length_take]; omega
        have ld1 : (vc.drop (j - i)).length = i := by rw [List.length_drop]; omega
        obtain ⟨bb, hbb⟩ : ∃ bb, bb = m + j - i := ⟨_, rfl⟩
        have hsr := fun W hW => swapRange base g cap Lc uc (vc.take (j - i)) (vc.drop (j - i)) Rc N W (by rw [lt1]; omega) (by rw [ld1]; exact hi.symm) hn hW f Lc.length bb rfl (by rw [lt1]; omega)
        rw [← hi] at hsr
        have hO' : Own base wr (.slice (some ⟨g, 0, none⟩) N cap) (Lc ++ uc ++ vc.take (j - i) ++ vc.drop (j - i) ++ Rc) := by
          rw [List.append_assoc (Lc ++ uc), ← ev]; exact hO
        have G0 : IntKind.i64.wrap ((m : Int) + (j : Int)) = (m : Int) + (j : Int) := IntWalk.i64_in _ (by omega)
        have G2 : IntKind.i64.wrap ((m : Int) + (j : Int) - (i : Int)) = (bb : Int) := by rw [IntWalk.i64_in _ (by omega)]; omega
        have G3 : IntKind.i64.wrap ((j : Int) - (i : Int)) = (((vc.take (j - i)).length : Nat) : Int) := by rw [IntWalk.i64_in _ (by omega), lt1]; omega
        have F3 : ((i : Int) == (j : Int)) = false := by rw [beq_eq_false_iff_ne]; omega
        have F4 : ¬ ((j : Int) < (i : Int)) := by omega
        have fin : Hid (0 < (vc.take (j - i)).length ∧ N = Lc.length + (vc.drop (j - i)).length + (vc.take (j - i)).length + (uc ++ Rc).length ∧ m = Lc.length + (vc.drop (j - i)).length ∧ T = Lc ++ vc.take (j - i) ++ vc.drop (j - i) ++ (uc ++ Rc)) := Lib.hid (by
          refine ⟨by omega, by simp only [List.length_append]; omega, by omega, ?_⟩
          rw [hT.out]
          conv => lhs; rw [ev]
          simp only [List.append_assoc])
        have HI := Lib.hid (show i = (vc.drop (j - i)).length from ld1.symm)
        have HJ := Lib.hid hj
        have HL := Lib.hid lt1
        generalize vc.take (j - i) = v1 at *
        generalize vc.drop (j - i) = v2 at *
        clear hi hj hNo hmo hij ev lt1 ld1 hO hbb hd
        go_wp2_with fail
        refine (hsr _ hO').mono ?_
        rintro e w1 ⟨rfl, hO1, hK1⟩
        go_wp2_with fail
        refine ⟨⟨Lc, v2, v1, uc ++ Rc, by rw [← HI.out], rfl, by have := HI.out; omega, fin.out.1, Lib.hid fin.out.2.1, Lib.hid fin.out.2.2.1, Lib.hid fin.out.2.2.2, by simpa using hO1, hK.trans hK1⟩, ?_⟩
        have := HL.out
        simp [intOf]
        omega
end Go.Proofs.Ytfipifjlmepooaa
