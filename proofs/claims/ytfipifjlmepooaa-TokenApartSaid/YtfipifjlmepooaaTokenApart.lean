/- TokenApart: for every number of ids and every script the law returns true: tokens that are live at one time have different ids, each from 1 to as many as there are; pools know nothing of one another. Conditions: none beyond the given statement. -/
import Derived.Test.YtfipifjlmepooaaRows
import Derived.WalkKit
import Derived.ProofKit
import Derived.OpenShut
import Derived.ShutString
import Derived.ChangeOld
import Derived.Below
import Derived.Carry
import Derived.Lib.SmallJoins
import Derived.Deep.DeepCutAuto
import Derived.Maps.OwnOps
import Derived.Maps.Views
import Derived.Test.YtfipifjlmepooaaTh
namespace Go.Proofs.Ytfipifjlmepooaa.tokenApart
open Go.ChangeShapes Go.WideShapes Go.ChangeAt Go.RowKit Go.Joins Go.Conc Go.Maps
open Go.ChangeMaps (open_string shut_string)
set_option linter.unusedVariables false
set_option linter.unusedSimpArgs false

theorem own : ownKnob Try.prog.godebug = none := by kernel_rfl
theorem laidOut : laidOutB Try.prog = true := by kernel_rfl

theorem law3 : Keyed Try.prog 3 := int_keyed Try.underlying3
theorem zero3 (w : World) : (zeroValue 3).run Try.prog w = .ok (.int .i64 0) w := by kernel_rfl

set_option maxRecDepth 100000 in
set_option maxHeartbeats 16000000 in
theorem walk' (k : Nat) (n : Int) (a : Option Addr) (len cap : Nat) (zs : List Int) (w : World) (hk : 1 ≤ k ∧ k ≤ 10) (hn : Hid ((1 + n % 10 : Int) = (k : Int)))
    (hb : 0 ≤ n ∧ n ≤ 255) (hrow : IsRow .u8 w a len cap zs) :
    Calls Try.prog 11 #[.int .u8 n, .slice a len cap] w fun e w' => e = .returned (.bool true) ∧ Below w.heap.size w w' := by
  obtain ⟨i0, hi, hz0, hz1, hz2⟩ := info_parts info57
  have hmm := @run_makeMap Try.prog
  have HRow := Lib.hid hrow
  have hlenle := hrow.len_le
  clear hrow
  go_enter Try.func11, Try.ntmps11
  go_wp2_with fail
  refine (awake4 w).mono ?_
  rintro e w1 ⟨rfl, hB1⟩
  go_wp2_with fail
  rw [hn.out]
  refine (new_is k w1 hk.1 (by omega)).mono ?_
  rintro e w2 ⟨p, c, rfl, hP2, hp, hc, hB2⟩
  have hB := hB1.trans (hB2.mono hB1.size)
  have s1 := hB1.size
  clear hB1 hB2 hb
  go_wp2_with fail
  refine (new_is k w2 hk.1 (by omega)).mono ?_
  rintro e w3 ⟨p2, c2, rfl, hP3, hp2, hc2, hB3⟩
  have hl2 := hP2.lt
  have hP2' : Pool w3 p c k 0 (upto k) := hP2.keep (X := []) (Keep.of_below hB3) (by simp) (by simp)
  have hB' := hB.trans (hB3.mono hB.size)
  have nep : p2 ≠ p := by omega
  have nepc : p2 ≠ c := by omega
  have necp : c2 ≠ p := by omega
  have necc : c2 ≠ c := by omega
  have gp : w.heap.size ≤ p := by omega
  have gc : w.heap.size ≤ c := by omega
  clear hP2 hB hB3 hl2 hp hc hp2 hc2 s1
  unfold at0
  go_wp2_with fail
  go_loopw [10, 37] (fun v i wr => ∃ (m : Nat) (L : TL) (q : List Nat), m ≤ len ∧ m ≤ 60 ∧ i = .int .i64 m ∧ Hid (L.length ≤ m) ∧ Hid (Fair k q L) ∧ Pool wr p c k (lids L).length q ∧ Pool wr p2 c2 k 0 (upto k) ∧ Toks w.heap.size wr p v L ∧ Below w.heap.size w wr) (fun v i wr => len - (intOf i).toNat)
  case atStart => exact ⟨0, [], upto k, by omega, by omega, rfl, Lib.hid (by simp), Lib.hid (Fair.start k), hP2', hP3, Toks.nil _ _ _, hB'⟩
  case round =>
    clear hP2' hP3 hB'
    obtain ⟨m, L, q, hm, hm6, rfl, hL, hF, hP, hP', hT, hB⟩ := hrel
    have E1 : IntKind.i64.wrap ((m : Int) + 1) = ((m + 1 : Nat) : Int) := by rw [IntWalk.i64_in _ (by omega)]; omega
    by_cases hlt : m < len
    · obtain ⟨x, z, rfl, hz, hz0', hz1'⟩ := HRow.out.at hB m hlt
      obtain ⟨zn, rfl⟩ := Int.eq_ofNat_of_zero_le hz0'
      by_cases h6 : m < 60
      · go_upto_if 46 with (fail)
        go_cut [10] (fun v wx => ∃ (L : TL) (q : List Nat), Hid (L.length ≤ m + 1) ∧ Hid (Fair k q L) ∧ Pool wx p c k (lids L).length q ∧ Pool wx p2 c2 k 0 (upto k) ∧ Toks w.heap.size wx p v L ∧ Below w.heap.size w wx)
        case first =>
          obtain ⟨rr, hrr⟩ : ∃ rr, rr = (zn : Int) % 3 := ⟨_, rfl⟩
          by_cases h3 : 0 < rr
          · go_wp2_with fail
            cases q with
            | nil =>
              refine (take_none _ _ _ _ _ hP).mono ?_
              rintro e w' ⟨rfl, rfl⟩
              go_wp2_with fail
              go_meet
              exact ⟨L, [], Lib.hid (by have := hL.out; omega), hF, hP, hP', hT, hB⟩
            | cons i q' =>
              have hlF := hF.out.len
              rw [List.length_cons] at hlF
              refine (take_is _ _ _ _ _ _ _ hP (by omega)).mono ?_
              rintro e wt ⟨t, rfl, hQ, hTok, ht, hK⟩
              have hQ' := hP'.keep hK (by simp; exact ⟨nep, nepc⟩) (by simp; exact ⟨necp, necc⟩)
              have hT1 := hT.take hP hK
              have hnew : ∀ x ∈ L, x.1 ≠ t := fun x hx e => by have := (hT.tok x hx).1.lt; omega
              have hBt := hB.trans (hK.below hB.size (by simp; exact ⟨gp, gc⟩))
              have hbt : w.heap.size ≤ t := Nat.le_trans hB.size ht
              clear hP hP' hT hB hK hz
              unfold at0
              have hrow := hT1.row
              have hlen := hL.out
              clear hlF
              go_wp2_with (at_builtin; refine wpList_append_own _ rfl _ _ 56 rfl w.heap.size 57 i0 (.pointer none) 1 8 Try.underlying56 hi hz0 hz1 hz2 rfl (by decide) _ _ _ rfl (hrow.alloc _) ⟨wt.heap.size, 0, none⟩ 1 1 [.pointer (some ⟨t, 0, none⟩)] rfl rfl (cell_one_new _ _ _) (by simp [Value.oneCell']) (by unfold maxLen; omega) (by omega) (by have := hBt.size; simp; omega) ?_; intro v' wa hown' hgrow _; obtain ⟨g', cap', rfl⟩ := own_succ hown')
              have hT2 := hT1.snoc hTok hbt hnew hown' hgrow
              have hBa : Below w.heap.size w wa := (hBt.alloc hBt.size _).grown hgrow (by have := hBt.size; simp; omega) (own_ge hrow)
              have hPa := hQ.grown hrow hgrow
              have hPb := hQ'.grown hrow hgrow
              go_meet
              refine ⟨L ++ [(t, i, true)], q', Lib.hid (by simp; omega), Lib.hid (hF.out.take t), ?_, hPb, hT2, hBa⟩
              have e1 : (lids (L ++ [(t, i, true)])).length = (lids L).length + 1 := by rw [lids_append]; simp [lids]
              rw [e1, show (((lids L).length + 1 : Nat) : Int) = ((lids L).length : Int) + 1 by omega]
              exact hPa
          · by_cases h0 : L.length = 0
            · obtain ⟨A, cp, rfl⟩ : ∃ A cp, u10 = .slice A 0 cp := by
                rcases hT.row.2 with ⟨h1, _⟩ | ⟨g, cap, cur, h1, _⟩
                · exact ⟨_, _, h1⟩
                · exact ⟨_, _, by rw [h1, h0]⟩
              go_wp2_with fail
              go_meet
              exact ⟨L, q, Lib.hid (by omega), hF, hP, hP', hT, hB⟩
            · obtain ⟨Ll, hLl⟩ : ∃ Ll, Ll = L.length := ⟨_, rfl⟩
              obtain ⟨g, cp, rfl⟩ : ∃ g cp, u10 = .slice (some ⟨g, 0, none⟩) Ll cp := by
                rcases hT.row.2 with ⟨_, h1⟩ | ⟨g, cap, cur, h1, _⟩
                · exact absurd h1 h0
                · exact ⟨_, _, by rw [h1, hLl]⟩
              have hpos : 0 < Ll := by omega
              have hLm : Ll ≤ 60 := by have := hL.out; omega
              have e1 : Int.tdiv (zn : Int) 3 = ((zn / 3 : Nat) : Int) := by rw [Int.tdiv_eq_ediv_of_nonneg (by omega)]; rfl
              have e2 : (zn : Int) / 3 = ((zn / 3 : Nat) : Int) := by omega
              have hzq : zn / 3 ≤ 100 := by omega
              generalize zn / 3 = zq at *
              have hjj := Nat.mod_lt zq hpos
              have e3 : Int.tmod (zq : Int) (Ll : Int) = ((zq % Ll : Nat) : Int) := by rw [Int.tmod_eq_emod_of_nonneg (by omega)]; rfl
              have e4 : (zq : Int) % (Ll : Int) = ((zq % Ll : Nat) : Int) := rfl
              generalize zq % Ll = jj at *
              obtain ⟨y, hy⟩ : ∃ y, L[jj]? = some y := ⟨L[jj]'(by omega), List.getElem?_eq_getElem _⟩
              have hcell : wr.cell? ⟨g, jj, none⟩ = some (.pointer (some ⟨y.1, 0, none⟩)) := by
                obtain ⟨g1, cap1, hv, hc1⟩ := hT.cell jj y hy
                simp at hv
                obtain ⟨rfl, -, rfl⟩ := hv
                exact hc1
              have hyT := (hT.tok y (List.mem_of_getElem? hy)).1
              have hby := (hT.tok y (List.mem_of_getElem? hy)).2
              have e5 : IntKind.i64.wrap (jj : Int) = (jj : Int) := IntWalk.i64_in _ (by omega)
              have e6 : ¬ (Ll = 0) := by omega
              have HY := Lib.hid hy
              have HLl := Lib.hid hLl
              clear hy hz hLl h0
              go_wp2_with fail
              cases hlv : y.2.2 with
              | false =>
                rw [hlv] at hyT
                refine (end_dead p c k 0 [] _ _ _ _ hyT).mono ?_
                rintro e w' ⟨rfl, rfl⟩
                clear e1 e2 e3 e4 e5 e6
                go_wp2_with fail
                go_meet
                exact ⟨L, q, Lib.hid (by have := hL.out; omega), hF, hP, hP', hT, hB⟩
              | true =>
                rw [hlv] at hyT
                obtain ⟨hF2, hq2, hl2⟩ := hF.out.end_ jj y HY.out hlv
                have hlF := hF.out.len
                refine (end_ok _ _ _ _ _ _ _ _ hP hyT hq2 (by omega)).mono ?_
                rintro e wt ⟨rfl, hQ, hxF, hs, hK⟩
                have hT2 := hT.end_ hP jj y HY.out hxF hK
                have hne := hyT.ne hP'
                have hQ' := hP'.keep hK (by simp; exact ⟨nep, nepc, Ne.symm hne.1⟩) (by simp; exact ⟨necp, necc, Ne.symm hne.2⟩)
                have hB2 := hB.trans (hK.below hB.size (by simp; exact ⟨gp, gc, hby⟩))
                have hcnt := (lids_set L jj y HY.out hlv).length_eq
                rw [List.length_cons] at hcnt
                clear hs e1 e2 e3 e4 e5 e6
                have HC := Lib.hid hcnt
                clear hcnt hlF
                go_wp2_with fail
                go_meet
                refine ⟨L.set jj (y.1, y.2.1, false), q ++ [y.2.1], Lib.hid (by rw [List.length_set]; have := hL.out; omega), Lib.hid hF2, ?_, hQ', hT2, hB2⟩
                have e7 : ((lids (L.set jj (y.1, y.2.1, false))).length : Int) = ((lids L).length : Int) - 1 := by have := HC.out; omega
                rw [e7]
                exact hQ
        case rest =>
          clear hP hP' hT hB hF hL hz
          obtain ⟨L, q, hL, hF, hP, hP', hT, hB⟩ := hcut
          obtain ⟨Ll, hLl⟩ : ∃ Ll, Ll = L.length := ⟨_, rfl⟩
          have hLm : Ll ≤ 61 := by have := hL.out; omega
          obtain ⟨A, cp, rfl⟩ : ∃ A cp, u10 = .slice A Ll cp := by
            rcases hT.row.2 with ⟨h1, h2⟩ | ⟨g, cap, cur, h1, _⟩
            · exact ⟨none, 0, by rw [h1, hLl, h2]⟩
            · exact ⟨_, _, by rw [h1, hLl]⟩
          have HLl := Lib.hid hLl
          clear hLl
          go_wp2_with fail
          go_loopw [16, 75] (fun lv j wr => ∃ (jn : Nat) (D : DataW Unit), jn ≤ Ll ∧ j = .int .i64 jn ∧ lv = .int .i64 (lids (L.take jn)).length ∧ wr.ownsMap Try.prog 3 (plainElem (H := Unit) Try.prog 3) wc.heap.size jn D ∧ Hid (∀ i : Nat, D.atKey (.int .i64 i) (.lit (.int .i64 0)) = .lit (.int .i64 (if i ∈ lids (L.take jn) then 1 else 0))) ∧ Below wc.heap.size wc wr) (fun lv j wr => Ll - (intOf j).toNat)
          case atStart => exact ⟨0, .map [], by omega, rfl, rfl, World.ownsMap_made _ _ _ _, Lib.hid (fun i => by simp [lids]; rfl), (Below.refl _ _).alloc (Nat.le_refl _) _⟩
          case round =>
            obtain ⟨jn, D, hjn, rfl, rfl, hown, hD, hBi⟩ := hrel
            have E2 : IntKind.i64.wrap ((jn : Int) + 1) = ((jn + 1 : Nat) : Int) := by rw [IntWalk.i64_in _ (by omega)]; omega
            have hcl := lids_take_le L jn
            by_cases hjl : jn < Ll
            · obtain ⟨y, hy⟩ : ∃ y, L[jn]? = some y := ⟨L[jn]'(by rw [← HLl.out]; exact hjl), List.getElem?_eq_getElem _⟩
              obtain ⟨g, cp1, hv, hcell0⟩ := hT.cell jn y hy
              obtain rfl : A = some ⟨g, 0, none⟩ := by simp at hv; exact hv.1
              have hKi : Keep [] wc wr := Keep.of_below hBi
              have hyT : Tok wr y.1 p y.2.1 y.2.2 := (hT.tok y (List.mem_of_getElem? hy)).1.keep hKi (by simp)
              have hcell : wr.cell? ⟨g, jn, none⟩ = some (.pointer (some ⟨y.1, 0, none⟩)) := (hBi.cell (World.block_lt_of_cell? wc _ hcell0)).trans hcell0
              have hid := hF.out.ids y (List.mem_of_getElem? hy)
              have hwf : (Lit.int .i64 (y.2.1 : Int)).wf = true := WalkArith.wf_i64 (by omega)
              have hkey : keyOf Try.prog 3 (.int .i64 (y.2.1 : Int)) = some (.int .i64 (y.2.1 : Int)) := keyOf_int_mk Try.underlying3 hwf
              have HY := Lib.hid hy
              clear hv hcell0 hy hKi
              cases hlv : y.2.2 with
              | true =>
                have htk := Lib.hid (lids_take_succ L jn y HY.out)
                have hfr := Lib.hid (hF.out.fresh jn y HY.out hlv)
                rw [hlv] at hyT
                obtain ⟨cc, hrun, hat, -⟩ := hown.lookup_int law3 Try.underlying72 Try.underlying3 (zero3 _) hkey
                rw [hD.out y.2.1, if_neg hfr.out] at hat
                obtain rfl : cc = 0 := by
                  simp only [DataW.lit.injEq, Lit.int.injEq, true_and] at hat
                  exact hat.symm
                clear hat
                go_wp2_with fail
                refine (live_any _ _ _ _ _ hyT).mono ?_
                rintro e w' ⟨rfl, rfl⟩
                go_wp2_with fail
                refine (id_any _ _ _ _ _ hyT).mono ?_
                rintro e w' ⟨rfl, rfl⟩
                have hE : IntKind.i64.wrap (((lids (L.take jn)).length : Int) + 1) = (((lids (L.take jn)).length + 1 : Nat) : Int) := by rw [IntWalk.i64_in _ (by omega)]; omega
                go_wp2_with (at_mapUpdate; refine wpList_mapUpdate_own _ rfl _ _ _ 72 rfl 3 3 law3 Try.underlying72 _ wc.heap.size jn D rfl hown (by unfold maxLen; omega) _ _ _ rfl rfl hkey (.lit (.int .i64 1)) [] (plainElem_int Try.underlying3 (by decide)) ?_; intro wq hown1 hgrow1)
                have hB1 : Below wc.heap.size wc wq := hBi.grown hgrow1 hBi.size (fun j hj => by cases hj; exact Nat.le_refl _)
                have hD1 : Hid (∀ i : Nat, (D.put (.int .i64 y.2.1) (.lit (.int .i64 1))).atKey (.int .i64 i) (.lit (.int .i64 0)) = .lit (.int .i64 (if i ∈ lids (L.take (jn + 1)) then 1 else 0))) := Lib.hid (fun i => by
                  rw [htk.out, hlv]
                  by_cases hi : i = y.2.1
                  · subst hi
                    rw [atKey_put_same hown.isMap (show WideAt.IsKeyLit (Lit.int .i64 (y.2.1 : Int)) from trivial)]
                    simp
                  · rw [atKey_put_other (by simp; omega), hD.out i]
                    simp [hi])
                have hyT1 : Tok wq y.1 p y.2.1 true := (hT.tok y (List.mem_of_getElem? HY.out)).1.keep (Keep.of_below (X := []) hB1) (by simp) |> fun h => by rw [hlv] at h; exact h
                obtain ⟨c2, hrun2, hat2, -⟩ := hown1.lookup_int law3 Try.underlying72 Try.underlying3 (zero3 _) hkey
                obtain rfl : c2 = 1 := by
                  rw [atKey_put_same hown.isMap (show WideAt.IsKeyLit (Lit.int .i64 (y.2.1 : Int)) from trivial)] at hat2
                  simp only [DataW.lit.injEq, Lit.int.injEq, true_and] at hat2
                  exact hat2.symm
                clear hat2 hrun hown hgrow1
                refine (id_any _ _ _ _ _ hyT1).mono ?_
                rintro e w' ⟨rfl, rfl⟩
                go_wp2_with fail
                refine (id_any _ _ _ _ _ hyT1).mono ?_
                rintro e w' ⟨rfl, rfl⟩
                go_wp2_with fail
                refine (id_any _ _ _ _ _ hyT1).mono ?_
                rintro e w' ⟨rfl, rfl⟩
                go_wp2_with fail
                have hlen1 : (lids (L.take (jn + 1))).length = (lids (L.take jn)).length + 1 := by rw [htk.out, hlv]; simp
                refine ⟨⟨jn + 1, _, by omega, by go_num, by rw [hlen1]; rfl, hown1, hD1, hB1⟩, by simp [intOf]; omega⟩
              | false =>
                have htk := Lib.hid (lids_take_succ L jn y HY.out)
                rw [hlv] at hyT
                obtain ⟨cc, hrun, hat, -⟩ := hown.lookup_int law3 Try.underlying72 Try.underlying3 (zero3 _) hkey
                rw [hD.out y.2.1] at hat
                have hcc : cc ≤ 1 := by
                  simp only [DataW.lit.injEq, Lit.int.injEq, true_and] at hat
                  rw [← hat]; split <;> omega
                clear hat
                go_wp2_with fail
                refine (live_any _ _ _ _ _ hyT).mono ?_
                rintro e w' ⟨rfl, rfl⟩
                go_wp2_with fail
                refine (id_any _ _ _ _ _ hyT).mono ?_
                rintro e w' ⟨rfl, rfl⟩
                go_wp2_with fail
                refine (id_any _ _ _ _ _ hyT).mono ?_
                rintro e w' ⟨rfl, rfl⟩
                go_wp2_with fail
                refine (id_any _ _ _ _ _ hyT).mono ?_
                rintro e w' ⟨rfl, rfl⟩
                go_wp2_with fail
                have hsame : lids (L.take (jn + 1)) = lids (L.take jn) := by rw [htk.out, hlv]; simp
                refine ⟨⟨jn + 1, D, by omega, by go_num, by rw [hsame], hown.mono (Nat.le_succ _), Lib.hid (fun i => by rw [hsame]; exact hD.out i), hBi⟩, by simp [intOf]; omega⟩
            · obtain rfl : jn = Ll := by omega
              have hKi : Keep [] wc wr := Keep.of_below hBi
              have hPi := hP.keep hKi (by simp) (by simp)
              have hPi' := hP'.keep hKi (by simp) (by simp)
              have hBe := hB.trans (hBi.mono hB.size)
              have hTi : Toks w.heap.size wr p (.slice A jn cp) L := hT.keep hKi (by simp) (by simp)
              have htl : lids (L.take jn) = lids L := by rw [HLl.out, List.take_length]
              have hll := hF.out.len
              rw [htl] at hcl ⊢
              clear hown hD hBi hT hP hP' hB hKi
              have hmx : ((lids L).length : Int) ≤ k := by omega
              clear hll htl
              go_wp2_with fail
              refine (out_any _ _ _ _ _ _ hPi).mono ?_
              rintro e w' ⟨rfl, rfl⟩
              go_wp2_with fail
              refine (out_any _ _ _ _ _ _ hPi').mono ?_
              rintro e w' ⟨rfl, rfl⟩
              go_wp2_with fail
              go_roundw
              case rel =>
                exact ⟨m + 1, L, q, by omega, by omega, by go_num, Lib.hid (by have := hL.out; omega), hF, hPi, hPi', hTi, hBe⟩
              case measure => simp [intOf]; omega
      · go_wp2_with fail
        go_ret
        exact ⟨rfl, hB⟩
    · go_wp2_with fail
      go_ret
      exact ⟨rfl, hB⟩

theorem walk (n : Int) (a : Option Addr) (len cap : Nat) (zs : List Int) (w : World) (w0 : (Lit.int .u8 n).wf = true) (hrow : IsRow .u8 w a len cap zs) :
    Calls Try.prog 11 #[.int .u8 n, .slice a len cap] w fun e w' => e = .returned (.bool true) ∧ Below w.heap.size w w' := by
  have hb := bounds_u8 w0
  exact walk' (1 + n % 10).toNat n a len cap zs w (by omega) (Lib.hid (by omega)) (by omega) hrow

/-! ### THE ROW's STEP -/
set_option maxRecDepth 100000 in
theorem lifted (os : Os) (started : os.Started) (H : Type) (enc : TypeId × Value → H) :
    ReturnsInHanded {} Try.checked os 11 .any (Rows.tokenApartSpec.pre6 enc Try.prog Try.f11 Rows.tokenApartRow.domain false) (Rows.tokenApartSpec.post enc Try.prog Try.f11 false true false false) := by
  refine returnsInHanded_of_change (C := Try.checked) own started (by kernel_rfl) Try.func11
    (ChangeSpec.witness6 (enc := enc) (C := Try.checked) false ⟨#[], #[.int .u8 0, .slice none 0 0], []⟩ 8 (by kernel_rfl) (by kernel_rfl) (by kernel_rfl) (by kernel_rfl)) ?_
  intro W base args ds gs before hval0 hW hcnd _
  have hval : ∀ (j : Nat) t v, Try.f11.params[j]? = some t → args[j]? = some v → Value.okWide Try.prog W .any base t v := hval0
  have hW' := hW
  obtain ⟨p, q, hA0, hV, rfl, hfz, hnd⟩ := hW
  have hA : DataW.TrodAll enc Try.prog W 0 (fun _ => true) true Try.f11.params.toList args.toList ds p := hA0
  rw [Try.params11] at hA hval
  obtain ⟨v0, vs0, d0, ds0, p0, q0, hargs, rfl, rfl, h0, r0⟩ := trodAll_cons hA
  obtain ⟨v1, vs1, d1, ds1, p1, q1, rfl, rfl, rfl, h1, r1⟩ := trodAll_cons r0
  obtain ⟨rfl, rfl, rfl⟩ := trodAll_nil r1
  obtain rfl : args = #[v0, v1] := by cases args; simp_all
  obtain ⟨rfl, rfl⟩ := trodVars_none hV
  have k0 := h0
  have lt0 : ∀ x ∈ p0, x.block < W.heap.size := by obtain ⟨m, hm⟩ := k0; exact DataW.trod_lt m _ _ _ hm
  obtain ⟨a0, rfl, rfl, rfl, w0⟩ := open_int Try.underlying5 (hval 0 5 v0 rfl rfl) h0
  obtain ⟨a1, len1, cap1, rfl⟩ := okWide_slice Try.underlying44 (hval 1 44 v1 rfl rfl)
  have k1 := h1
  have lt1 : ∀ x ∈ p1, x.block < W.heap.size := by obtain ⟨m, hm⟩ := k1; exact DataW.trod_lt m _ _ _ hm
  obtain ⟨z1, w1⟩ : ∃ zs, IsRow .u8 W a1 len1 cap1 zs := by
    obtain ⟨fuel, hf⟩ := h1
    rcases open_ints Try.underlying44 Try.underlying5 (by kernel_rfl) hf with ⟨hcs, _⟩ | ⟨x, l, c, zs, hcs, _, hl, hm, hz, _, hcell, hwz⟩
    · simp [Value.cells] at hcs
      obtain ⟨rfl, rfl, rfl⟩ := hcs
      exact ⟨[], .inl ⟨rfl, rfl, rfl, rfl⟩⟩
    · simp [Value.cells] at hcs
      obtain ⟨rfl, rfl, rfl⟩ := hcs
      exact ⟨zs, .inr ⟨_, rfl, hl, hm, by simpa using hz, hcell, hwz⟩⟩
  clear hA0 hval0
  refine (walk a0 a1 len1 cap1 z1 W w0 w1).mono fun e W' ⟨he, bel⟩ => ?_
  subst he
  exact ⟨_, rfl, _, _, _, [], _, [], hW', trodAll_mk1 (shut_bool Try.underlying4 _), (trodAll_cons_mk (Below.trod laidOut (by kernel_rfl) (of_decide_eq_true (by kernel_rfl)) k0 bel lt0) (trodAll_cons_mk (Below.trod laidOut (by kernel_rfl) (of_decide_eq_true (by kernel_rfl)) k1 bel lt1) trodAll_mk0)), rfl, bel.frame _, fun h => by cases h⟩

theorem over : Rows.tokenApartRow.holds Try.pinned (OpenSpec.ofChange Rows.tokenApartSpec) :=
  OpenClaim.holds_of_wide 11 Try.f11 rfl rfl rfl rfl rfl rfl rfl ⟨rfl, rfl, rfl, rfl, rfl⟩ rfl rfl rfl rfl rfl (by kernel_rfl) Try.func11 (by kernel_rfl)
    (of_decide_eq_true (by kernel_rfl)) (by unfold Func.isWrapper; first | (rw [if_pos (by decide +kernel)]; kernel_rfl) | (rw [if_neg (by decide +kernel)]; exact ⟨rfl, rfl⟩))
    (fun os started H enc _ => lifted os started H enc)

theorem proved : Rows.TokenApartSaid := over
#print axioms proved
end Go.Proofs.Ytfipifjlmepooaa.tokenApart
