/- TokenTurns: for every number of ids, order and number of rounds the law returns true: ids come round in the order in which they were ended. Conditions: none beyond the given statement. -/
import Derived.Test.YtfipifjlmepooaaRows
import Derived.WalkKit
import Derived.ProofKit
import Derived.OpenShut
import Derived.ShutString
import Derived.ChangeOld
import Derived.Below
import Derived.Carry
import Derived.Lib.SmallJoins
import Derived.StillTailTactics
import Derived.Test.YtfipifjlmepooaaTg
namespace Go.Proofs.Ytfipifjlmepooaa.tokenTurns
open Go.ChangeShapes Go.WideShapes Go.ChangeAt Go.RowKit Go.Joins Go.Conc
open Go.ChangeMaps (open_string shut_string)
set_option linter.unusedVariables false
set_option linter.unusedSimpArgs false

theorem own : ownKnob Try.prog.godebug = none := by kernel_rfl
theorem laidOut : laidOutB Try.prog = true := by kernel_rfl

set_option maxRecDepth 100000 in
set_option maxHeartbeats 16000000 in
theorem walk' (k R : Nat) (n r : Int) (a : Option Addr) (len cap : Nat) (zs : List Int) (w : World) (hk : 1 ≤ k ∧ k ≤ 9) (hn : Hid ((1 + n % 9 : Int) = (k : Int))) (hR : R ≤ 40) (hr : Hid ((r % 40 : Int) = (R : Int)))
    (hb : 0 ≤ n ∧ n ≤ 255) (hb2 : 0 ≤ r ∧ r ≤ 255) (hrow : IsRow .u8 w a len cap zs) :
    Calls Try.prog 12 #[.int .u8 n, .slice a len cap, .int .u8 r] w fun e w' => e = .returned (.bool true) ∧ Below w.heap.size w w' := by
  obtain ⟨i0, hi, hz0, hz1, hz2⟩ := info_parts info57
  have HRow := Lib.hid hrow
  have hlenle := hrow.len_le
  clear hrow
  go_enter Try.func12, Try.ntmps12
  go_wp2_with fail
  refine (awake4 w).mono ?_
  rintro e w1 ⟨rfl, hB1⟩
  go_wp2_with fail
  rw [hn.out]
  refine (new_is k w1 hk.1 (by omega)).mono ?_
  rintro e w2 ⟨p, c, rfl, hP2, hp, hc, hB2⟩
  have hB := hB1.trans (hB2.mono hB1.size)
  have s1 := hB1.size
  have gp : w.heap.size ≤ p := by omega
  have gc : w.heap.size ≤ c := by omega
  clear hB1 hB2 hb hp hc s1
  unfold at0
  go_wp2_with fail
  rw [hr.out]
  rw [← rot_zero] at hP2
  go_loopw [38] (fun i wr => ∃ (j : Nat), j ≤ R ∧ i = .int .i64 j ∧ Pool wr p c k 0 (rot k j) ∧ Below w.heap.size w wr) (fun i wr => R - (intOf i).toNat)
  case atStart => exact ⟨0, by omega, rfl, hP2, hB⟩
  case round =>
    clear hP2 hB hb2
    obtain ⟨j, hj, rfl, hP, hB⟩ := hrel
    by_cases hlt : j < R
    · obtain ⟨tl, e1, e2, hl⟩ := rot_cons k j hk.1
      rw [e1] at hP
      have E2 := Lib.hid e2
      clear e1 e2
      go_wp2_with fail
      refine (take_is _ _ _ _ _ _ _ hP (by omega)).mono ?_
      rintro e wt ⟨t, rfl, hQ, hTok, ht, hK⟩
      have hBt := hB.trans (hK.below hB.size (by simp; exact ⟨gp, gc⟩))
      have hbt : w.heap.size ≤ t := Nat.le_trans hB.size ht
      clear hP hB hK ht
      unfold at0
      have hQd : Pool wt.drew p c k (0 + 1) tl := hQ
      have hTd : Tok wt.drew t p (1 + j % k) true := hTok
      have hdk := Nat.mod_lt j (show 0 < k by omega)
      have E3 : Int.tmod (j : Int) (k : Int) = ((j % k : Nat) : Int) := by rw [Int.tmod_eq_emod_of_nonneg (by omega)]; rfl
      generalize j % k = d at *
      have E3' : IntKind.i64.wrap (d : Int) = (d : Int) := IntWalk.i64_in _ (by omega)
      have E4 : IntKind.i64.wrap (1 + (d : Int)) = ((1 + d : Nat) : Int) := by rw [IntWalk.i64_in _ (by omega)]; omega
      have E5 : ((k : Int) == 0) = false := by rw [beq_eq_false_iff_ne]; omega
      have E6 : ¬ (k = 0) := by omega
      generalize 1 + d = id at *
      go_wp2_with fail
      go_still_tail 14, (by kernel_rfl)
      still_call ((id_any _ _ _ _ _ hTd).mono fun e w' h => ⟨h.1, h.2.symm⟩)
      repeat still_step
      try refine wpStill_nil ?_
      change wpList _ _ _ _ _ wt.drew
      have hBd : Below w.heap.size w wt.drew := hBt.drew
      clear hBt hTok hQ E3 E3' E4 E5 E6
      generalize wt.drew = wd at *
      go_wp2_with fail
      refine (end_ok _ _ _ _ _ _ _ _ hQd hTd hl (by omega)).mono ?_
      rintro e we ⟨rfl, hPe, hTe, hs, hKe⟩
      have hBe := hBd.trans (hKe.below hBd.size (by simp; exact ⟨gp, gc, hbt⟩))
      clear hs hKe hBd hQd hTd hTe
      have E1 : IntKind.i64.wrap ((j : Int) + 1) = ((j + 1 : Nat) : Int) := by rw [IntWalk.i64_in _ (by omega)]; omega
      go_wp2_with fail
      refine ⟨⟨j + 1, by omega, by go_num, ?_, hBe⟩, by simp [intOf]; omega⟩
      rw [← E2.out]
      exact hPe
    · have hQl : (rot k j).length = k := rot_length k j
      generalize rot k j = Q0 at *
      go_wp2_with fail
      go_loopw [13, 65] (fun v i wr => ∃ (j : Nat) (L : TL), j ≤ k ∧ i = .int .i64 j ∧ Hid (L.length = j) ∧ Hid (LiveFrom 0 L) ∧ Pool wr p c k j (Q0.drop j) ∧ Toks w.heap.size wr p v L ∧ Below w.heap.size w wr) (fun v i wr => k - (intOf i).toNat)
      case atStart => exact ⟨0, [], by omega, rfl, Lib.hid rfl, Lib.hid (by intro i x h; simp at h), hP, Toks.nil _ _ _, hB⟩
      case round =>
        clear hP hB hlt hj
        obtain ⟨j2, L, hj, rfl, hL, hLv, hP, hT, hB⟩ := hrel
        by_cases hlt : j2 < k
        · have hd : Q0.drop j2 = Q0[j2]'(by omega) :: Q0.drop (j2 + 1) := List.drop_eq_getElem_cons (by omega)
          rw [hd] at hP
          generalize Q0[j2]'(by omega) = id at hP
          go_wp2_with fail
          refine (take_is _ _ _ _ _ _ _ hP (by omega)).mono ?_
          rintro e wt ⟨t, rfl, hQ, hTok, ht, hK⟩
          have hT1 := hT.take hP hK
          have hnew : ∀ x ∈ L, x.1 ≠ t := fun x hx e => by have := (hT.tok x hx).1.lt; omega
          have hBt := hB.trans (hK.below hB.size (by simp; exact ⟨gp, gc⟩))
          have hbt : w.heap.size ≤ t := Nat.le_trans hB.size ht
          clear hP hT hB hK hd
          unfold at0
          have E1 : IntKind.i64.wrap ((j2 : Int) + 1) = ((j2 + 1 : Nat) : Int) := by rw [IntWalk.i64_in _ (by omega)]; omega
          have hrow := hT1.row
          have hlen := hL.out
          go_wp2_with (at_builtin; refine wpList_append_own _ rfl _ _ 56 rfl w.heap.size 57 i0 (.pointer none) 1 8 Try.underlying56 hi hz0 hz1 hz2 rfl (by decide) _ _ _ rfl (hrow.alloc _) ⟨wt.heap.size, 0, none⟩ 1 1 [.pointer (some ⟨t, 0, none⟩)] rfl rfl (cell_one_new _ _ _) (by simp [Value.oneCell']) (by unfold maxLen; omega) (by omega) (by have := hBt.size; simp; omega) ?_; intro v' wa hown' hgrow _; obtain ⟨g', cap', rfl⟩ := own_succ hown')
          have hT2 := hT1.snoc hTok hbt hnew hown' hgrow
          rw [hlen] at hT2
          have hBa : Below w.heap.size w wa := (hBt.alloc hBt.size _).grown hgrow (by have := hBt.size; simp; omega) (own_ge hrow)
          have hPa := hQ.grown hrow hgrow
          refine ⟨⟨j2 + 1, L ++ [(t, id, true)], by omega, by go_num, Lib.hid (by simp [hlen]), Lib.hid (liveFrom_snoc hLv.out t id), ?_, hT2, hBa⟩, by simp [intOf]; omega⟩
          rw [show ((j2 + 1 : Nat) : Int) = (j2 : Int) + 1 by omega]
          exact hPa
        · obtain rfl : j2 = k := by omega
          rw [List.drop_of_length_le (by omega)] at hP
          obtain ⟨g, cap3, rfl⟩ : ∃ g cap, u13 = .slice (some ⟨g, 0, none⟩) j2 cap := by
            have hlen := hL.out
            rcases hT.row.2 with ⟨_, h0⟩ | ⟨g, cap, cur, h, _⟩
            · omega
            · exact ⟨g, cap, by rw [h, hlen]⟩
          clear hQl hlt hj
          go_wp2_with fail
          go_loopw [79] (fun i wr => ∃ (m : Nat) (L : TL), m ≤ j2 ∧ i = .int .i64 m ∧ Hid (L.length = j2) ∧ Hid (LiveFrom 0 L) ∧ Pool wr p c j2 j2 [] ∧ Toks w.heap.size wr p (.slice (some ⟨g, 0, none⟩) j2 cap3) L ∧ Below w.heap.size w wr) (fun i wr => j2 - (intOf i).toNat)
          case atStart => exact ⟨0, L, by omega, rfl, hL, hLv, hP, hT, hB⟩
          case round =>
            clear hP hT hB hL hLv
            obtain ⟨m, L, hm, rfl, hL, hLv, hP, hT, hB⟩ := hrel
            have E1 : IntKind.i64.wrap ((m : Int) + 1) = ((m + 1 : Nat) : Int) := by rw [IntWalk.i64_in _ (by omega)]; omega
            by_cases hlt : m < j2
            · by_cases hlo : m < len
              · obtain ⟨x, z, rfl, hz, hz0', hz1'⟩ := HRow.out.at hB m hlo
                have hjm : 0 < j2 - m := by omega
                obtain ⟨zn, rfl⟩ := Int.eq_ofNat_of_zero_le hz0'
                have hd := Nat.mod_lt zn hjm
                obtain ⟨D, hD⟩ : ∃ D, D = j2 - m := ⟨_, rfl⟩
                rw [← hD] at hd hjm
                have F1 : IntKind.i64.wrap ((j2 : Int) - (m : Int)) = (D : Int) := by rw [IntWalk.i64_in _ (by omega)]; omega
                have F2 : Int.tmod (zn : Int) (D : Int) = ((zn % D : Nat) : Int) := by rw [Int.tmod_eq_emod_of_nonneg (by omega)]; rfl
                generalize zn % D = d at *
                have F3 : IntKind.i64.wrap ((m : Int) + (d : Int)) = ((m + d : Nat) : Int) := by rw [IntWalk.i64_in _ (by omega)]; omega
                have F3' : IntKind.i64.wrap (d : Int) = (d : Int) := IntWalk.i64_in _ (by omega)
                have F4 : ¬ (D = 0) := by omega
                obtain ⟨J, hJ⟩ : ∃ J, J = m + d := ⟨_, rfl⟩
                rw [← hJ] at F3
                have F7 : J < j2 := by omega
                have F6 : (J : Int) < (j2 : Int) := by omega
                clear hJ
                obtain ⟨xi, hxi⟩ : ∃ x, L[m]? = some x := ⟨L[m]'(by rw [hL.out]; exact hlt), List.getElem?_eq_getElem _⟩
                obtain ⟨yj, hyj⟩ : ∃ x, L[J]? = some x := ⟨L[J]'(by rw [hL.out]; exact F7), List.getElem?_eq_getElem _⟩
                have hTd : Toks w.heap.size wr.drew p (.slice (some ⟨g, 0, none⟩) j2 cap3) L := ⟨hT.row, hT.tok, hT.nd⟩
                have hPd : Pool wr.drew p c j2 j2 [] := hP
                have hBd : Below w.heap.size w wr.drew := hB.drew
                have hcells : wr.cell? ⟨g, m, none⟩ = some (.pointer (some ⟨xi.1, 0, none⟩)) ∧ wr.cell? ⟨g, J, none⟩ = some (.pointer (some ⟨yj.1, 0, none⟩)) ∧ wr.frozen? ⟨g, m, none⟩ = false ∧ wr.frozen? ⟨g, J, none⟩ = false := by
                  obtain ⟨g1, cap1, hv, hc1⟩ := hT.cell m xi hxi
                  obtain ⟨g2, cap2, hv2, hc2⟩ := hT.cell J yj hyj
                  simp at hv hv2
                  obtain ⟨rfl, -, rfl⟩ := hv
                  obtain ⟨rfl, -, rfl⟩ := hv2
                  have hr := hT.row
                  rw [hL.out] at hr
                  exact ⟨hc1, hc2, hr.frozenAt m, hr.frozenAt (J)⟩
                obtain ⟨c1, c2, f1, f2⟩ := hcells
                have HXI := Lib.hid hxi
                have HYJ := Lib.hid hyj
                have G1 := Lib.hid (own_ge hT.row g rfl)
                clear hT hP hB hxi hyj hD hd hjm
                have c1' : wr.drew.cell? ⟨g, m, none⟩ = some (.pointer (some ⟨xi.1, 0, none⟩)) := c1
                have f1' : wr.drew.frozen? ⟨g, m, none⟩ = false := f1
                have c2' : wr.drew.cell? ⟨g, J, none⟩ = some (.pointer (some ⟨yj.1, 0, none⟩)) := c2
                have f2' : wr.drew.frozen? ⟨g, J, none⟩ = false := f2
                have hrow := hTd.row
                rw [hL.out] at hrow
                have hrow2 := (hrow.stored m (at0 yj.1)).1
                have c3 : (wr.drew.setCell ⟨g, m, none⟩ (.pointer (some ⟨yj.1, 0, none⟩))).cell? ⟨g, J, none⟩ = some (.pointer (some ⟨yj.1, 0, none⟩)) := by
                  have h1 := hrow2.cellAt J (by omega)
                  rw [List.getElem?_set, List.length_map, hL.out, List.getElem?_map, HYJ.out] at h1
                  split at h1
                  · exact h1
                  · exact h1
                have f3 : (wr.drew.setCell ⟨g, m, none⟩ (.pointer (some ⟨yj.1, 0, none⟩))).frozen? ⟨g, J, none⟩ = false := hrow2.frozenAt J
                have hTs : Toks w.heap.size ((wr.drew.setCell ⟨g, m, none⟩ (at0 yj.1)).setCell ⟨g, J, none⟩ (at0 xi.1)) p (.slice (some ⟨g, 0, none⟩) j2 cap3) ((L.set m yj).set J xi) := by
                  have := hL.out
                  subst this
                  exact hTd.swap HXI.out HYJ.out
                have hPs := (hPd.setRow (off := m) hrow rfl (at0 yj.1)).setRow (off := J) hrow2 rfl (at0 xi.1)
                have hBs := (hBd.setCell (p := ⟨g, m, none⟩) G1.out (at0 yj.1)).setCell (p := ⟨g, J, none⟩) G1.out (at0 xi.1)
                have c3w : (wr.setCell ⟨g, m, none⟩ (.pointer (some ⟨yj.1, 0, none⟩))).cell? ⟨g, J, none⟩ = some (.pointer (some ⟨yj.1, 0, none⟩)) := c3
                have f3w : (wr.setCell ⟨g, m, none⟩ (.pointer (some ⟨yj.1, 0, none⟩))).frozen? ⟨g, J, none⟩ = false := f3
                clear c3 f3
                have HTs := Lib.hid hTs
                have HPs := Lib.hid hPs
                have HBs := Lib.hid hBs
                clear hTs hPs hBs hTd hPd hBd hrow hrow2
                go_wp2_with fail
                go_region
                all_goals
                  go_wp2_with fail
                  refine ⟨⟨m + 1, (L.set m yj).set J xi, by omega, by go_num, Lib.hid (by rw [List.length_set, List.length_set]; exact hL.out), Lib.hid (liveFrom_swap hLv.out HXI.out HYJ.out), HPs.out, HTs.out, HBs.out⟩, by simp [intOf]; omega⟩
              · have hlo' : (len : Int) ≤ m := by omega
                go_wp2_with fail
                refine ⟨⟨m + 1, L, by omega, by go_num, hL, hLv, hP, hT, hB⟩, by simp [intOf]; omega⟩
            · have hI : (L.map (·.2.1)).length = j2 := by rw [List.length_map]; exact hL.out
              obtain ⟨I, hIe⟩ : ∃ I, I = L.map (·.2.1) := ⟨_, rfl⟩
              rw [← hIe] at hI
              have HI := Lib.hid hI
              have HIe := Lib.hid hIe
              clear hI hIe
              go_wp2_with fail
              clear hlt hm
              go_loopw [115] (fun i wr => ∃ (m : Nat) (L : TL), m ≤ j2 ∧ i = .int .i64 m ∧ Hid (L.length = j2) ∧ Hid (LiveFrom m L) ∧ Hid (I = L.map (·.2.1)) ∧ Pool wr p c j2 ((j2 : Int) - m) (I.take m) ∧ Toks w.heap.size wr p (.slice (some ⟨g, 0, none⟩) j2 cap3) L ∧ Below w.heap.size w wr) (fun i wr => j2 - (intOf i).toNat)
              case atStart => exact ⟨0, L, by omega, rfl, hL, hLv, HIe, by simpa using hP, hT, hB⟩
              case round =>
                clear hP hT hB hL hLv HIe E1
                obtain ⟨m, L, hm, rfl, hL, hLv, HIe, hP, hT, hB⟩ := hrel
                have E1 : IntKind.i64.wrap ((m : Int) + 1) = ((m + 1 : Nat) : Int) := by rw [IntWalk.i64_in _ (by omega)]; omega
                by_cases hlt : m < j2
                · obtain ⟨x, hx⟩ : ∃ x, L[m]? = some x := ⟨L[m]'(by rw [hL.out]; exact hlt), List.getElem?_eq_getElem _⟩
                  have hcell : wr.cell? ⟨g, m, none⟩ = some (.pointer (some ⟨x.1, 0, none⟩)) := by
                    obtain ⟨g1, cap1, hv, hc1⟩ := hT.cell m x hx
                    simp at hv
                    obtain ⟨rfl, -, rfl⟩ := hv
                    exact hc1
                  have hxT := (hT.tok x (List.mem_of_getElem? hx)).1
                  have hbx := (hT.tok x (List.mem_of_getElem? hx)).2
                  rw [hLv.out m x hx (Nat.le_refl _)] at hxT
                  have HX := Lib.hid hx
                  clear hx
                  go_wp2_with fail
                  refine (end_ok _ _ _ _ _ _ _ _ hP hxT (by rw [List.length_take]; omega) (by omega)).mono ?_
                  rintro e wt ⟨rfl, hQ, hxF, hs, hK⟩
                  have hT2 := hT.end_ hP m x HX.out hxF hK
                  have hB2 := hB.trans (hK.below hB.size (by simp; exact ⟨gp, gc, hbx⟩))
                  clear hs hK hT hB hP
                  have hmap : Hid (I = (L.set m (x.1, x.2.1, false)).map (·.2.1)) := Lib.hid (by
                    rw [HIe.out, List.map_set]
                    apply List.ext_getElem (by simp)
                    intro n h1 h2
                    rw [List.getElem_set]
                    split
                    · rename_i e; subst e
                      have := (List.getElem?_eq_some_iff.1 HX.out).2
                      simp [this]
                    · rfl)
                  have hIm : Hid (I.take (m + 1) = I.take m ++ [x.2.1]) := Lib.hid (by
                    have hlI : m < I.length := by rw [HI.out]; exact hlt
                    rw [List.take_succ_eq_append_getElem hlI]
                    have : I[m] = x.2.1 := by
                      have h1 := (List.getElem?_eq_some_iff.1 HX.out).2
                      have h2 := HIe.out
                      subst h2
                      simp [h1]
                    rw [this])
                  go_wp2_with fail
                  refine ⟨⟨m + 1, L.set m (x.1, x.2.1, false), by omega, by go_num, Lib.hid (by rw [List.length_set]; exact hL.out), Lib.hid (liveFrom_set hLv.out _), hmap, ?_, hT2, hB2⟩, by simp [intOf]; omega⟩
                  rw [hIm.out, show (j2 : Int) - ((m + 1 : Nat) : Int) = (j2 : Int) - m - 1 by omega]
                  exact hQ
                · obtain rfl : m = j2 := by omega
                  have hP0 : Pool wr p c m ((0 : Nat) : Int) (I.drop 0) := by
                    rw [List.take_of_length_le (by rw [HI.out]; exact Nat.le_refl _)] at hP
                    simpa using hP
                  clear hP
                  go_wp2_with fail
                  clear hlt hm E1
                  go_loopw [125] (fun i wr => ∃ (j : Nat), j ≤ m ∧ i = .int .i64 j ∧ Pool wr p c m j (I.drop j) ∧ Toks w.heap.size wr p (.slice (some ⟨g, 0, none⟩) m cap3) L ∧ Below w.heap.size w wr) (fun i wr => m - (intOf i).toNat)
                  case atStart => exact ⟨0, by omega, rfl, hP0, hT, hB⟩
                  case round =>
                    clear hP0 hT hB
                    obtain ⟨j, hj, rfl, hP, hT, hB⟩ := hrel
                    have E1 : IntKind.i64.wrap ((j : Int) + 1) = ((j + 1 : Nat) : Int) := by rw [IntWalk.i64_in _ (by omega)]; omega
                    by_cases hlt : j < m
                    · obtain ⟨x, hx⟩ : ∃ x, L[j]? = some x := ⟨L[j]'(by rw [hL.out]; exact hlt), List.getElem?_eq_getElem _⟩
                      have hcell : wr.cell? ⟨g, j, none⟩ = some (.pointer (some ⟨x.1, 0, none⟩)) := by
                        obtain ⟨g1, cap1, hv, hc1⟩ := hT.cell j x hx
                        simp at hv
                        obtain ⟨rfl, -, rfl⟩ := hv
                        exact hc1
                      have hlI : j < I.length := by rw [HI.out]; exact hlt
                      have hd : I.drop j = x.2.1 :: I.drop (j + 1) := by
                        rw [List.drop_eq_getElem_cons hlI]
                        congr 1
                        have h1 := (List.getElem?_eq_some_iff.1 hx).2
                        have h2 := HIe.out
                        subst h2
                        simp [h1]
                      rw [hd] at hP
                      have HX := Lib.hid hx
                      clear hx hd hlI
                      go_wp2_with fail
                      refine (take_is _ _ _ _ _ _ _ hP (by omega)).mono ?_
                      rintro e wt ⟨t, rfl, hQ, hTok, ht, hK⟩
                      have hT1 := hT.take hP hK
                      have hxl := (hT.tok x (List.mem_of_getElem? HX.out)).1.lt
                      have hxT := (hT1.tok x (List.mem_of_getElem? HX.out)).1
                      have hBt := hB.trans (hK.below hB.size (by simp; exact ⟨gp, gc⟩))
                      have hbt : w.heap.size ≤ t := Nat.le_trans hB.size ht
                      have hne : t ≠ x.1 := by omega
                      have heq := eql_tok_other wt hne hTok hxT
                      clear hP hT hB hK ht hxl
                      unfold at0
                      go_wp2_with fail
                      refine (id_any _ _ _ _ _ hTok).mono ?_
                      rintro e w' ⟨rfl, rfl⟩
                      go_wp2_with fail
                      refine (id_any _ _ _ _ _ hxT).mono ?_
                      rintro e w' ⟨rfl, rfl⟩
                      go_wp2_with fail
                      refine ⟨⟨j + 1, by omega, by go_num, ?_, hT1, hBt⟩, by simp [intOf]; omega⟩
                      rw [show ((j + 1 : Nat) : Int) = (j : Int) + 1 by omega]
                      exact hQ
                    · go_wp2_with fail
                      go_ret
                      exact ⟨rfl, hB⟩

theorem walk (n : Int) (a : Option Addr) (len cap : Nat) (zs : List Int) (r : Int) (w : World) (w0 : (Lit.int .u8 n).wf = true) (hrow : IsRow .u8 w a len cap zs) (w2 : (Lit.int .u8 r).wf = true) :
    Calls Try.prog 12 #[.int .u8 n, .slice a len cap, .int .u8 r] w fun e w' => e = .returned (.bool true) ∧ Below w.heap.size w w' := by
  have hb := bounds_u8 w0
  have hb2 := bounds_u8 w2
  exact walk' (1 + n % 9).toNat (r % 40).toNat n r a len cap zs w (by omega) (Lib.hid (by omega)) (by omega) (Lib.hid (by omega)) (by omega) (by omega) hrow

/-! ### THE ROW's STEP -/
set_option maxRecDepth 100000 in
theorem lifted (os : Os) (started : os.Started) (H : Type) (enc : TypeId × Value → H) :
    ReturnsInHanded {} Try.checked os 12 .any (Rows.tokenTurnsSpec.pre6 enc Try.prog Try.f12 Rows.tokenTurnsRow.domain false) (Rows.tokenTurnsSpec.post enc Try.prog Try.f12 false true false false) := by
  refine returnsInHanded_of_change (C := Try.checked) own started (by kernel_rfl) Try.func12
    (ChangeSpec.witness6 (enc := enc) (C := Try.checked) false ⟨#[], #[.int .u8 0, .slice none 0 0, .int .u8 0], []⟩ 8 (by kernel_rfl) (by kernel_rfl) (by kernel_rfl) (by kernel_rfl)) ?_
  intro W base args ds gs before hval0 hW hcnd _
  have hval : ∀ (j : Nat) t v, Try.f12.params[j]? = some t → args[j]? = some v → Value.okWide Try.prog W .any base t v := hval0
  have hW' := hW
  obtain ⟨p, q, hA0, hV, rfl, hfz, hnd⟩ := hW
  have hA : DataW.TrodAll enc Try.prog W 0 (fun _ => true) true Try.f12.params.toList args.toList ds p := hA0
  rw [Try.params12] at hA hval
  obtain ⟨v0, vs0, d0, ds0, p0, q0, hargs, rfl, rfl, h0, r0⟩ := trodAll_cons hA
  obtain ⟨v1, vs1, d1, ds1, p1, q1, rfl, rfl, rfl, h1, r1⟩ := trodAll_cons r0
  obtain ⟨v2, vs2, d2, ds2, p2, q2, rfl, rfl, rfl, h2, r2⟩ := trodAll_cons r1
  obtain ⟨rfl, rfl, rfl⟩ := trodAll_nil r2
  obtain rfl : args = #[v0, v1, v2] := by cases args; simp_all
  obtain ⟨rfl, rfl⟩ := trodVars_none hV
  have k0 := h0
  have lt0 : ∀ x ∈ p0, x.block < W.heap.size := by obtain ⟨m, hm⟩ := k0; exact DataW.trod_lt m _ _ _ hm
  obtain ⟨a0, rfl, rfl, rfl, w0⟩ := open_int Try.underlying5 (hval 0 5 v0 rfl rfl) h0
  obtain ⟨a1, len1, cap1, rfl⟩ := okWide_slice Try.underlying44 (hval 1 44 v1 rfl rfl)
  have k1 := h1
  have lt1 : ∀ x ∈ p1, x.block < W.heap.size := by obtain ⟨m, hm⟩ := k1; exact DataW.trod_lt m _ _ _ hm
  obtain ⟨z1, w1⟩ : ∃ zs, IsRow .u8 W a1 len1 cap1 zs := by
    obtain ⟨fuel, hf⟩ := h1
    rcases open_ints Try.underlying44 Try.underlying5 (by kernel_rfl) hf with ⟨hcs, _⟩ | ⟨x, l, c, zs, hcs, _, hl, hm, hz, _, hcell, hwz⟩
    · simp [Value.cells] at hcs
      obtain ⟨rfl, rfl, rfl⟩ := hcs
      exact ⟨[], .inl ⟨rfl, rfl, rfl, rfl⟩⟩
    · simp [Value.cells] at hcs
      obtain ⟨rfl, rfl, rfl⟩ := hcs
      exact ⟨zs, .inr ⟨_, rfl, hl, hm, by simpa using hz, hcell, hwz⟩⟩
  have k2 := h2
  have lt2 : ∀ x ∈ p2, x.block < W.heap.size := by obtain ⟨m, hm⟩ := k2; exact DataW.trod_lt m _ _ _ hm
  obtain ⟨a2, rfl, rfl, rfl, w2⟩ := open_int Try.underlying5 (hval 2 5 v2 rfl rfl) h2
  clear hA0 hval0
  refine (walk a0 a1 len1 cap1 z1 a2 W w0 w1 w2).mono fun e W' ⟨he, bel⟩ => ?_
  subst he
  exact ⟨_, rfl, _, _, _, [], _, [], hW', trodAll_mk1 (shut_bool Try.underlying4 _), (trodAll_cons_mk (Below.trod laidOut (by kernel_rfl) (of_decide_eq_true (by kernel_rfl)) k0 bel lt0) (trodAll_cons_mk (Below.trod laidOut (by kernel_rfl) (of_decide_eq_true (by kernel_rfl)) k1 bel lt1) (trodAll_cons_mk (Below.trod laidOut (by kernel_rfl) (of_decide_eq_true (by kernel_rfl)) k2 bel lt2) trodAll_mk0))), rfl, bel.frame _, fun h => by cases h⟩

theorem over : Rows.tokenTurnsRow.holds Try.pinned (OpenSpec.ofChange Rows.tokenTurnsSpec) :=
  OpenClaim.holds_of_wide 12 Try.f12 rfl rfl rfl rfl rfl rfl rfl ⟨rfl, rfl, rfl, rfl, rfl⟩ rfl rfl rfl rfl rfl (by kernel_rfl) Try.func12 (by kernel_rfl)
    (of_decide_eq_true (by kernel_rfl)) (by unfold Func.isWrapper; first | (rw [if_pos (by decide +kernel)]; kernel_rfl) | (rw [if_neg (by decide +kernel)]; exact ⟨rfl, rfl⟩))
    (fun os started H enc _ => lifted os started H enc)

theorem proved : Rows.TokenTurnsSaid := over
#print axioms proved
end Go.Proofs.Ytfipifjlmepooaa.tokenTurns
