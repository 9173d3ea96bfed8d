/- TokenPlays: for every number of ids and every script of taking and ending the law returns true: each id, who is live, how many are out, are those of the document; a token that has ended stays so, though its id is taken again. Conditions: none beyond the given statement. -/
import Derived.Test.YtfipifjlmepooaaRows
import Derived.WalkKit
import Derived.ProofKit
import Derived.OpenShut
import Derived.ShutString
import Derived.ChangeOld
import Derived.Below
import Derived.BigQuiet
import Derived.Deep.DeepCutAuto
import Derived.Carry
import Derived.Lib.SmallJoins
import Derived.Test.YtfipifjlmepooaaTx
namespace Go.Proofs.Ytfipifjlmepooaa.tokenPlays
open Go.ChangeShapes Go.WideShapes Go.ChangeAt Go.RowKit Go.Joins Go.Conc Go.Lib
open Go.ChangeMaps (open_string shut_string)
set_option linter.unusedVariables false
set_option linter.unusedSimpArgs false

theorem own : ownKnob Try.prog.godebug = none := by kernel_rfl
theorem laidOut : laidOutB Try.prog = true := by kernel_rfl

set_option maxRecDepth 100000 in
set_option maxHeartbeats 16000000 in
theorem walk' (k : Nat) (n : Int) (a : Option Addr) (len cap : Nat) (zs : List Int) (w : World) (hk : 1 ≤ k ∧ k ≤ 12) (hn : Hid ((1 + n % 12 : Int) = (k : Int)))
    (hb : 0 ≤ n ∧ n ≤ 255) (hrow : IsRow .u8 w a len cap zs) :
    Calls Try.prog 8 #[.int .u8 n, .slice a len cap] w fun e w' => e = .returned (.bool true) ∧ Below w.heap.size w w' := by
  obtain ⟨i0, hi, hz0, hz1, hz2⟩ := info_parts info57
  have HRow := Lib.hid hrow
  have hlenle := hrow.len_le
  clear hrow
  go_enter Try.func8, Try.ntmps8
  go_wp2_with fail
  refine (awake4 w).mono ?_
  rintro e w1 ⟨rfl, hB1⟩
  go_wp2_with fail
  rw [hn.out]
  refine (new_is k w1 hk.1 (by omega)).mono ?_
  rintro e w2 ⟨p, c, rfl, hP2, hp, hc, hB2⟩
  have hB := hB1.trans (hB2.mono hB1.size)
  have s1 := hB1.size
  have gp : w.heap.size ≤ p := by omega
  have gc : w.heap.size ≤ c := by omega
  clear hB1 hB2 hb hp hc s1
  go_wp2_with fail
  refine (refNew k w2 (by omega)).mono ?_
  rintro e w3 ⟨x, vr, vl, vi, rfl, hR3, hB3⟩
  have hP3 : Pool w3 p c k 0 (upto k) := hP2.keep (X := []) (Keep.of_below hB3) (by simp) (by simp)
  have hR : RefP w.heap.size w3 x k vr vl vi (upto k) [] [] := ⟨hR3.blk, Nat.le_trans hB.size hR3.ge, ownsRow_le hR3.row hB.size, ownsRow_le hR3.live hB.size, ownsRow_le hR3.ids hB.size, hR3.apart⟩
  have hB' := hB.trans (hB3.mono hB.size)
  clear hP2 hB hB3 hR3
  unfold at0
  go_wp2_with fail
  go_loopw [9, 37] (fun v i wr => ∃ m : Nat, m ≤ len ∧ m ≤ 80 ∧ i = .int .i64 m ∧ ∃ (L : TL) (q : List Nat) (vr vl vi : Value), Hid (L.length ≤ m) ∧ Hid (Fair k q L) ∧ Pool wr p c k (lids L).length q ∧ Toks w.heap.size wr p v L ∧ RefP w.heap.size wr x k vr vl vi q (lvs L) (idn L) ∧ Below w.heap.size w wr) (fun v i wr => len - (intOf i).toNat)
  case atStart => exact ⟨0, by omega, by omega, rfl, [], upto k, vr, vl, vi, Lib.hid (by simp), Lib.hid (Fair.start k), hP3, Toks.nil _ _ _, hR, hB'⟩
  case round =>
    clear hP3 hR hB'
    obtain ⟨m, hm, hm6, rfl, L, q, vr, vl, vi, hL, hF, hP, hT, hR, hB⟩ := hrel
    have E1 : IntKind.i64.wrap ((m : Int) + 1) = ((m + 1 : Nat) : Int) := by rw [IntWalk.i64_in _ (by omega)]; omega
    by_cases hlt : m < len
    · obtain ⟨xa, z, rfl, hz, hz0', hz1'⟩ := HRow.out.at hB m hlt
      obtain ⟨zn, rfl⟩ := Int.eq_ofNat_of_zero_le hz0'
      by_cases h6 : m < 80
      · obtain ⟨Ll, hLl⟩ : ∃ Ll, Ll = L.length := ⟨_, rfl⟩
        have hLm : Ll ≤ 80 := by have := hL.out; omega
        obtain ⟨A, cp, rfl⟩ : ∃ A cp, u9 = .slice A Ll cp := by
          rcases hT.row.2 with ⟨h1, h2⟩ | ⟨g, cap, cur, h1, _⟩
          · exact ⟨none, 0, by rw [h1, hLl, h2]⟩
          · exact ⟨_, _, by rw [h1, hLl]⟩
        have HLl := Lib.hid hLl
        clear hLl
        by_cases he : (zn : Int) % 2 = 0
        · go_upto_if 51 with (fail)
          go_cut [9] (fun v wx => ∃ (L : TL) (q : List Nat) (vr vl vi : Value), Hid (L.length ≤ m + 1) ∧ Hid (Fair k q L) ∧ Pool wx p c k (lids L).length q ∧ Toks w.heap.size wx p v L ∧ RefP w.heap.size wx x k vr vl vi q (lvs L) (idn L) ∧ Below w.heap.size w wx)
          case first =>
            cases q with
            | nil =>
              go_wp2_with fail
              refine (take_none _ _ _ _ _ hP).mono ?_
              rintro e w' ⟨rfl, rfl⟩
              go_wp2_with fail
              refine (refTake_none _ _ _ _ _ _ _ _ _ hR).mono ?_
              rintro e w' ⟨rfl, rfl⟩
              go_wp2_with fail
              go_meet
              exact ⟨L, [], vr, vl, vi, Lib.hid (by have := hL.out; omega), hF, hP, hT, hR, hB⟩
            | cons i q' =>
              have hlF := hF.out.len
              rw [List.length_cons] at hlF
              have hlen := hL.out
              go_wp2_with fail
              refine (take_is _ _ _ _ _ _ _ hP (by omega)).mono ?_
              rintro e wt ⟨t, rfl, hQ, hTok, ht, hK⟩
              have hT1 := hT.take hP hK
              have hR1 := hR.take hP hK
              have hnew : ∀ y ∈ L, y.1 ≠ t := fun y hy e => by have := (hT.tok y hy).1.lt; omega
              have hBt := hB.trans (hK.below hB.size (by simp; exact ⟨gp, gc⟩))
              have hbt : w.heap.size ≤ t := Nat.le_trans hB.size ht
              clear hP hT hB hK hz hR
              unfold at0
              go_wp2_with fail
              refine (refTake_some _ _ _ _ _ _ _ _ _ _ _ hR1 (by rw [lvs_len]; omega) (by rw [idn_len]; omega) (by omega)).mono ?_
              rintro e wu ⟨vr', vl', vi', rfl, hR2, hKR⟩
              have hQ2 := hQ.keepR hKR
              have hTok2 := hTok.keepR hKR
              have hT2 := hT1.keepR hKR
              have hB2 := hBt.trans hKR.below
              clear hQ hTok hT1 hBt hKR hR1
              have HR2 := Lib.hid hR2
              obtain ⟨gl, cl, gi, ci, e1, e2, x1, x2, x3, x4, l1, l2⟩ := hR2.at Ll true i (by rw [List.getElem?_append_right (by rw [lvs_len, HLl.out]; exact Nat.le_refl _), lvs_len, HLl.out]; simp) (by rw [List.getElem?_append_right (by rw [idn_len, HLl.out]; exact Nat.le_refl _), idn_len, HLl.out]; simp)
              rw [List.length_append, idn_len, ← HLl.out] at e2 l2
              rw [List.length_append, lvs_len, ← HLl.out] at e1 l1
              subst e1
              subst e2
              rw [idn_len, ← HLl.out]
              simp only [List.length_cons, List.length_nil, Nat.zero_add] at *
              have B1 : ((Ll : Nat) : Int) < ((Ll + 1 : Nat) : Int) := by omega
              have B2 : (0 : Int) ≤ (Ll : Int) := by omega
              clear hR2
              go_wp2_with fail
              go_quiet ((go_at_call 35; exact Calls.quiet_of_same (id_q hTok2 _)))
              have hQ3 := hQ2.drewN nq
              have hTok3 : Tok (wu.drewN nq) t p i true := hTok2
              have hT3 := hT2.drewN nq
              have hB3 := below_drewT hB2 nq
              have HR3 := Lib.hid (HR2.out.drewN nq)
              clear hQ2 hTok2 hT2 hB2 HR2 x1 x2 x3 x4
              generalize wu.drewN nq = wv at *
              have hrow0 := hT3.row
              have hrow : wv.ownsRow w.heap.size 57 1 (.slice A Ll cp) Ll (L.map fun y => at0 y.1) := by have := hT3.row; rw [← HLl.out] at this; exact this
              go_wp2_with (at_builtin; refine wpList_append_own _ rfl _ _ 56 rfl w.heap.size 57 i0 (.pointer none) 1 8 Try.underlying56 hi hz0 hz1 hz2 rfl (by decide) (.slice A Ll cp) Ll (L.map fun y => at0 y.1) rfl (hrow.alloc _) ⟨wv.heap.size, 0, none⟩ 1 1 [.pointer (some ⟨t, 0, none⟩)] rfl rfl (cell_one_new _ _ _) (by simp [Value.oneCell']) (by unfold maxLen; omega) (by omega) (by have := hB3.size; simp; omega) ?_; intro v' wa hown' hgrow _; obtain ⟨g', cap', rfl⟩ := own_succ hown')
              have hown2 : wa.ownsRow w.heap.size 57 1 (.slice (some ⟨g', 0, none⟩) (Ll + 1) cap') (L.length + 1) ((L.map fun y => at0 y.1) ++ [at0 t]) := by rw [← HLl.out]; exact hown'
              have hT4 := hT3.snoc hTok3 hbt hnew hown2 hgrow
              have hBa : Below w.heap.size w wa := (hB3.alloc hB3.size _).grown hgrow (by have := hB3.size; simp; omega) (own_ge hrow)
              have hPa := hQ3.grown hrow hgrow
              have hRa := HR3.out.grownT hrow hgrow
              rw [← lvs_snoc L t i, ← idn_snoc L t i] at hRa
              go_meet
              refine ⟨L ++ [(t, i, true)], q', _, _, _, Lib.hid (by simp; omega), Lib.hid (hF.out.take t), ?_, hT4, hRa, hBa⟩
              have e1 : (lids (L ++ [(t, i, true)])).length = (lids L).length + 1 := by rw [lids_append]; simp [lids]
              rw [e1, show (((lids L).length + 1 : Nat) : Int) = ((lids L).length : Int) + 1 by omega]
              exact hPa
          case rest =>
            clear hP hT hB hF hL hz hR HLl
            obtain ⟨L, q, vr, vl, vi, hL, hF, hP, hT, hR, hB⟩ := hcut
            obtain ⟨Ll, hLl⟩ : ∃ Ll, Ll = L.length := ⟨_, rfl⟩
            have hLm : Ll ≤ 81 := by have := hL.out; omega
            obtain ⟨A, cp, rfl⟩ : ∃ A cp, u9 = .slice A Ll cp := by
              rcases hT.row.2 with ⟨h1, h2⟩ | ⟨g, cap, cur, h1, _⟩
              · exact ⟨none, 0, by rw [h1, hLl, h2]⟩
              · exact ⟨_, _, by rw [h1, hLl]⟩
            have HLl := Lib.hid hLl
            have HT := Lib.hid hT
            have HR := Lib.hid hR
            have HP := Lib.hid hP
            have HB := Lib.hid hB
            clear hLl hT hR hP hB
            go_wp2_with fail
            go_loopw [17, 106] (fun lv j wr => ∃ jn z : Nat, jn ≤ Ll ∧ j = .int .i64 jn ∧ lv = .int .i64 (lids (L.take jn)).length ∧ wr = wc.drewN z) (fun lv j wr => Ll - (intOf j).toNat)
            case atStart => exact ⟨0, 0, by omega, rfl, rfl, rfl⟩
            case round =>
              obtain ⟨jn, z, hjn, rfl, rfl, rfl⟩ := hrel
              have E2 : IntKind.i64.wrap ((jn : Int) + 1) = ((jn + 1 : Nat) : Int) := by rw [IntWalk.i64_in _ (by omega)]; omega
              have hcl := lids_take_le L jn
              have hT := HT.out.drewN z
              have hR := HR.out.drewN z
              have HDD := Lib.hid (fun y => (by simp [World.drewN, Nat.add_assoc] : (wc.drewN z).drewN y = wc.drewN (z + y)))
              by_cases hjl : jn < Ll
              · obtain ⟨y, hy⟩ : ∃ y, L[jn]? = some y := ⟨L[jn]'(by rw [← HLl.out]; exact hjl), List.getElem?_eq_getElem _⟩
                obtain ⟨g, cp1, hv, hcell⟩ := hT.cell jn y hy
                obtain rfl : A = some ⟨g, 0, none⟩ := by simp at hv; exact hv.1
                have hyT : Tok (wc.drewN z) y.1 p y.2.1 y.2.2 := (hT.tok y (List.mem_of_getElem? hy)).1
                obtain ⟨gl, cl, gi, ci, q1, q2, x1, x2, x3, x4, l1, l2⟩ := hR.at jn y.2.2 y.2.1 (lvs_get L jn y hy) (idn_get L jn y hy)
                rw [lvs_len, ← HLl.out] at q1 l1
                rw [idn_len, ← HLl.out] at q2 l2
                have x3' : (wc.drewN z).cell? ⟨x, 2, none⟩ = some (.slice (some ⟨gl, 0, none⟩) Ll cl) := by rw [← q1]; exact x3
                have x4' : (wc.drewN z).cell? ⟨x, 3, none⟩ = some (.slice (some ⟨gi, 0, none⟩) Ll ci) := by rw [← q2]; exact x4
                have htk := Lib.hid (lids_take_succ L jn y hy)
                have B1 : (jn : Int) < (Ll : Int) := by omega
                have B2 : (0 : Int) ≤ (jn : Int) := by omega
                unfold at0 at hcell
                have hee : ((y.2.1 : Int) == (y.2.1 : Int)) = true := by simp
                clear hv hT hR q1 q2 x3 x4 l1 l2 hy
                generalize wc.drewN z = W at *
                cases hlv : y.2.2 with
                | true =>
                  rw [hlv] at hyT x1 htk
                  have hE : IntKind.i64.wrap (((lids (L.take jn)).length : Int) + 1) = (((lids (L.take jn)).length + 1 : Nat) : Int) := by rw [IntWalk.i64_in _ (by omega)]; omega
                  go_wp2_with fail
                  go_quiet ((first | (go_at_call 38; exact Calls.quiet_of_same (live_q hyT _)) | (go_at_call 35; exact Calls.quiet_of_same (id_q hyT _))))
                  have hd := HDD.out nq
                  have hyT1 : Tok (W.drewN nq) y.1 p y.2.1 true := hyT
                  have HD := Lib.hid hd
                  clear hd hyT x1 x2 x3' x4' hcell
                  generalize W.drewN nq = W1 at *
                  go_wp2_with fail
                  refine (live_any _ _ _ _ _ hyT1).mono ?_
                  rintro e w' ⟨rfl, rfl⟩
                  go_wp2_with fail
                  have hlen1 : (lids (L.take (jn + 1))).length = (lids (L.take jn)).length + 1 := by rw [htk.out]; simp
                  exact ⟨⟨jn + 1, _, by omega, by go_num, by rw [hlen1]; rfl, HD.out⟩, by simp [intOf]; omega⟩
                | false =>
                  rw [hlv] at hyT x1 htk
                  go_wp2_with fail
                  go_quiet ((first | (go_at_call 38; exact Calls.quiet_of_same (live_q hyT _)) | (go_at_call 35; exact Calls.quiet_of_same (id_q hyT _))))
                  have hd := HDD.out nq
                  have hyT1 : Tok (W.drewN nq) y.1 p y.2.1 false := hyT
                  have HD := Lib.hid hd
                  clear hd hyT x1 x2 x3' x4' hcell
                  generalize W.drewN nq = W1 at *
                  go_wp2_with fail
                  refine (live_any _ _ _ _ _ hyT1).mono ?_
                  rintro e w' ⟨rfl, rfl⟩
                  go_wp2_with fail
                  have hsame : lids (L.take (jn + 1)) = lids (L.take jn) := by rw [htk.out]; simp
                  exact ⟨⟨jn + 1, _, by omega, by go_num, by rw [hsame], HD.out⟩, by simp [intOf]; omega⟩
              · obtain rfl : jn = Ll := by omega
                have hPi := HP.out.drewN z
                have hBe := below_drewT HB.out z
                have htl : lids (L.take jn) = lids L := by rw [HLl.out, List.take_length]
                rw [htl] at hcl ⊢
                generalize wc.drewN z = W at *
                have hee : (((lids L).length : Int) == ((lids L).length : Int)) = true := by simp
                have hkk : ((k : Int) == (k : Int)) = true := by simp
                clear htl
                go_wp2_with fail
                refine (out_any _ _ _ _ _ _ hPi).mono ?_
                rintro e w' ⟨rfl, rfl⟩
                go_wp2_with fail
                refine (room_any _ _ _ _ _ _ hPi).mono ?_
                rintro e w' ⟨rfl, rfl⟩
                go_wp2_with fail
                go_roundw
                case rel =>
                  exact ⟨m + 1, by omega, by omega, by go_num, L, q, vr, vl, vi, hL, hF, hPi, hT, hR, hBe⟩
                case measure => simp [intOf]; omega
        · by_cases h0 : Ll = 0
          · have h0i : ((Ll : Int) == 0) = true := by simp [h0]
            clear h0
            go_upto_if 51 with (fail)
            clear h0i
            go_cut [9] (fun v wx => ∃ (L : TL) (q : List Nat) (vr vl vi : Value), Hid (L.length ≤ m + 1) ∧ Hid (Fair k q L) ∧ Pool wx p c k (lids L).length q ∧ Toks w.heap.size wx p v L ∧ RefP w.heap.size wx x k vr vl vi q (lvs L) (idn L) ∧ Below w.heap.size w wx)
            case first =>
              cases q with
              | nil =>
                go_wp2_with fail
                refine (take_none _ _ _ _ _ hP).mono ?_
                rintro e w' ⟨rfl, rfl⟩
                go_wp2_with fail
                refine (refTake_none _ _ _ _ _ _ _ _ _ hR).mono ?_
                rintro e w' ⟨rfl, rfl⟩
                go_wp2_with fail
                go_meet
                exact ⟨L, [], vr, vl, vi, Lib.hid (by have := hL.out; omega), hF, hP, hT, hR, hB⟩
              | cons i q' =>
                have hlF := hF.out.len
                rw [List.length_cons] at hlF
                have hlen := hL.out
                go_wp2_with fail
                refine (take_is _ _ _ _ _ _ _ hP (by omega)).mono ?_
                rintro e wt ⟨t, rfl, hQ, hTok, ht, hK⟩
                have hT1 := hT.take hP hK
                have hR1 := hR.take hP hK
                have hnew : ∀ y ∈ L, y.1 ≠ t := fun y hy e => by have := (hT.tok y hy).1.lt; omega
                have hBt := hB.trans (hK.below hB.size (by simp; exact ⟨gp, gc⟩))
                have hbt : w.heap.size ≤ t := Nat.le_trans hB.size ht
                clear hP hT hB hK hz hR
                unfold at0
                go_wp2_with fail
                refine (refTake_some _ _ _ _ _ _ _ _ _ _ _ hR1 (by rw [lvs_len]; omega) (by rw [idn_len]; omega) (by omega)).mono ?_
                rintro e wu ⟨vr', vl', vi', rfl, hR2, hKR⟩
                have hQ2 := hQ.keepR hKR
                have hTok2 := hTok.keepR hKR
                have hT2 := hT1.keepR hKR
                have hB2 := hBt.trans hKR.below
                clear hQ hTok hT1 hBt hKR hR1
                have HR2 := Lib.hid hR2
                obtain ⟨gl, cl, gi, ci, e1, e2, x1, x2, x3, x4, l1, l2⟩ := hR2.at Ll true i (by rw [List.getElem?_append_right (by rw [lvs_len, HLl.out]; exact Nat.le_refl _), lvs_len, HLl.out]; simp) (by rw [List.getElem?_append_right (by rw [idn_len, HLl.out]; exact Nat.le_refl _), idn_len, HLl.out]; simp)
                rw [List.length_append, idn_len, ← HLl.out] at e2 l2
                rw [List.length_append, lvs_len, ← HLl.out] at e1 l1
                subst e1
                subst e2
                rw [idn_len, ← HLl.out]
                simp only [List.length_cons, List.length_nil, Nat.zero_add] at *
                have B1 : ((Ll : Nat) : Int) < ((Ll + 1 : Nat) : Int) := by omega
                have B2 : (0 : Int) ≤ (Ll : Int) := by omega
                clear hR2
                go_wp2_with fail
                go_quiet ((go_at_call 35; exact Calls.quiet_of_same (id_q hTok2 _)))
                have hQ3 := hQ2.drewN nq
                have hTok3 : Tok (wu.drewN nq) t p i true := hTok2
                have hT3 := hT2.drewN nq
                have hB3 := below_drewT hB2 nq
                have HR3 := Lib.hid (HR2.out.drewN nq)
                clear hQ2 hTok2 hT2 hB2 HR2 x1 x2 x3 x4
                generalize wu.drewN nq = wv at *
                have hrow0 := hT3.row
                have hrow : wv.ownsRow w.heap.size 57 1 (.slice A Ll cp) Ll (L.map fun y => at0 y.1) := by have := hT3.row; rw [← HLl.out] at this; exact this
                go_wp2_with (at_builtin; refine wpList_append_own _ rfl _ _ 56 rfl w.heap.size 57 i0 (.pointer none) 1 8 Try.underlying56 hi hz0 hz1 hz2 rfl (by decide) (.slice A Ll cp) Ll (L.map fun y => at0 y.1) rfl (hrow.alloc _) ⟨wv.heap.size, 0, none⟩ 1 1 [.pointer (some ⟨t, 0, none⟩)] rfl rfl (cell_one_new _ _ _) (by simp [Value.oneCell']) (by unfold maxLen; omega) (by omega) (by have := hB3.size; simp; omega) ?_; intro v' wa hown' hgrow _; obtain ⟨g', cap', rfl⟩ := own_succ hown')
                have hown2 : wa.ownsRow w.heap.size 57 1 (.slice (some ⟨g', 0, none⟩) (Ll + 1) cap') (L.length + 1) ((L.map fun y => at0 y.1) ++ [at0 t]) := by rw [← HLl.out]; exact hown'
                have hT4 := hT3.snoc hTok3 hbt hnew hown2 hgrow
                have hBa : Below w.heap.size w wa := (hB3.alloc hB3.size _).grown hgrow (by have := hB3.size; simp; omega) (own_ge hrow)
                have hPa := hQ3.grown hrow hgrow
                have hRa := HR3.out.grownT hrow hgrow
                rw [← lvs_snoc L t i, ← idn_snoc L t i] at hRa
                go_meet
                refine ⟨L ++ [(t, i, true)], q', _, _, _, Lib.hid (by simp; omega), Lib.hid (hF.out.take t), ?_, hT4, hRa, hBa⟩
                have e1 : (lids (L ++ [(t, i, true)])).length = (lids L).length + 1 := by rw [lids_append]; simp [lids]
                rw [e1, show (((lids L).length + 1 : Nat) : Int) = ((lids L).length : Int) + 1 by omega]
                exact hPa
            case rest =>
              clear hP hT hB hF hL hz hR HLl
              obtain ⟨L, q, vr, vl, vi, hL, hF, hP, hT, hR, hB⟩ := hcut
              obtain ⟨Ll, hLl⟩ : ∃ Ll, Ll = L.length := ⟨_, rfl⟩
              have hLm : Ll ≤ 81 := by have := hL.out; omega
              obtain ⟨A, cp, rfl⟩ : ∃ A cp, u9 = .slice A Ll cp := by
                rcases hT.row.2 with ⟨h1, h2⟩ | ⟨g, cap, cur, h1, _⟩
                · exact ⟨none, 0, by rw [h1, hLl, h2]⟩
                · exact ⟨_, _, by rw [h1, hLl]⟩
              have HLl := Lib.hid hLl
              have HT := Lib.hid hT
              have HR := Lib.hid hR
              have HP := Lib.hid hP
              have HB := Lib.hid hB
              clear hLl hT hR hP hB
              go_wp2_with fail
              go_loopw [17, 106] (fun lv j wr => ∃ jn z : Nat, jn ≤ Ll ∧ j = .int .i64 jn ∧ lv = .int .i64 (lids (L.take jn)).length ∧ wr = wc.drewN z) (fun lv j wr => Ll - (intOf j).toNat)
              case atStart => exact ⟨0, 0, by omega, rfl, rfl, rfl⟩
              case round =>
                obtain ⟨jn, z, hjn, rfl, rfl, rfl⟩ := hrel
                have E2 : IntKind.i64.wrap ((jn : Int) + 1) = ((jn + 1 : Nat) : Int) := by rw [IntWalk.i64_in _ (by omega)]; omega
                have hcl := lids_take_le L jn
                have hT := HT.out.drewN z
                have hR := HR.out.drewN z
                have HDD := Lib.hid (fun y => (by simp [World.drewN, Nat.add_assoc] : (wc.drewN z).drewN y = wc.drewN (z + y)))
                by_cases hjl : jn < Ll
                · obtain ⟨y, hy⟩ : ∃ y, L[jn]? = some y := ⟨L[jn]'(by rw [← HLl.out]; exact hjl), List.getElem?_eq_getElem _⟩
                  obtain ⟨g, cp1, hv, hcell⟩ := hT.cell jn y hy
                  obtain rfl : A = some ⟨g, 0, none⟩ := by simp at hv; exact hv.1
                  have hyT : Tok (wc.drewN z) y.1 p y.2.1 y.2.2 := (hT.tok y (List.mem_of_getElem? hy)).1
                  obtain ⟨gl, cl, gi, ci, q1, q2, x1, x2, x3, x4, l1, l2⟩ := hR.at jn y.2.2 y.2.1 (lvs_get L jn y hy) (idn_get L jn y hy)
                  rw [lvs_len, ← HLl.out] at q1 l1
                  rw [idn_len, ← HLl.out] at q2 l2
                  have x3' : (wc.drewN z).cell? ⟨x, 2, none⟩ = some (.slice (some ⟨gl, 0, none⟩) Ll cl) := by rw [← q1]; exact x3
                  have x4' : (wc.drewN z).cell? ⟨x, 3, none⟩ = some (.slice (some ⟨gi, 0, none⟩) Ll ci) := by rw [← q2]; exact x4
                  have htk := Lib.hid (lids_take_succ L jn y hy)
                  have B1 : (jn : Int) < (Ll : Int) := by omega
                  have B2 : (0 : Int) ≤ (jn : Int) := by omega
                  unfold at0 at hcell
                  have hee : ((y.2.1 : Int) == (y.2.1 : Int)) = true := by simp
                  clear hv hT hR q1 q2 x3 x4 l1 l2 hy
                  generalize wc.drewN z = W at *
                  cases hlv : y.2.2 with
                  | true =>
                    rw [hlv] at hyT x1 htk
                    have hE : IntKind.i64.wrap (((lids (L.take jn)).length : Int) + 1) = (((lids (L.take jn)).length + 1 : Nat) : Int) := by rw [IntWalk.i64_in _ (by omega)]; omega
                    go_wp2_with fail
                    go_quiet ((first | (go_at_call 38; exact Calls.quiet_of_same (live_q hyT _)) | (go_at_call 35; exact Calls.quiet_of_same (id_q hyT _))))
                    have hd := HDD.out nq
                    have hyT1 : Tok (W.drewN nq) y.1 p y.2.1 true := hyT
                    have HD := Lib.hid hd
                    clear hd hyT x1 x2 x3' x4' hcell
                    generalize W.drewN nq = W1 at *
                    go_wp2_with fail
                    refine (live_any _ _ _ _ _ hyT1).mono ?_
                    rintro e w' ⟨rfl, rfl⟩
                    go_wp2_with fail
                    have hlen1 : (lids (L.take (jn + 1))).length = (lids (L.take jn)).length + 1 := by rw [htk.out]; simp
                    exact ⟨⟨jn + 1, _, by omega, by go_num, by rw [hlen1]; rfl, HD.out⟩, by simp [intOf]; omega⟩
                  | false =>
                    rw [hlv] at hyT x1 htk
                    go_wp2_with fail
                    go_quiet ((first | (go_at_call 38; exact Calls.quiet_of_same (live_q hyT _)) | (go_at_call 35; exact Calls.quiet_of_same (id_q hyT _))))
                    have hd := HDD.out nq
                    have hyT1 : Tok (W.drewN nq) y.1 p y.2.1 false := hyT
                    have HD := Lib.hid hd
                    clear hd hyT x1 x2 x3' x4' hcell
                    generalize W.drewN nq = W1 at *
                    go_wp2_with fail
                    refine (live_any _ _ _ _ _ hyT1).mono ?_
                    rintro e w' ⟨rfl, rfl⟩
                    go_wp2_with fail
                    have hsame : lids (L.take (jn + 1)) = lids (L.take jn) := by rw [htk.out]; simp
                    exact ⟨⟨jn + 1, _, by omega, by go_num, by rw [hsame], HD.out⟩, by simp [intOf]; omega⟩
                · obtain rfl : jn = Ll := by omega
                  have hPi := HP.out.drewN z
                  have hBe := below_drewT HB.out z
                  have htl : lids (L.take jn) = lids L := by rw [HLl.out, List.take_length]
                  rw [htl] at hcl ⊢
                  generalize wc.drewN z = W at *
                  have hee : (((lids L).length : Int) == ((lids L).length : Int)) = true := by simp
                  have hkk : ((k : Int) == (k : Int)) = true := by simp
                  clear htl
                  go_wp2_with fail
                  refine (out_any _ _ _ _ _ _ hPi).mono ?_
                  rintro e w' ⟨rfl, rfl⟩
                  go_wp2_with fail
                  refine (room_any _ _ _ _ _ _ hPi).mono ?_
                  rintro e w' ⟨rfl, rfl⟩
                  go_wp2_with fail
                  go_roundw
                  case rel =>
                    exact ⟨m + 1, by omega, by omega, by go_num, L, q, vr, vl, vi, hL, hF, hPi, hT, hR, hBe⟩
                  case measure => simp [intOf]; omega
          · have h0i : ((Ll : Int) == 0) = false := by simp [h0]
            go_upto_if 51 with (fail)
            clear h0i
            go_cut [9] (fun v wx => ∃ (L : TL) (q : List Nat) (vr vl vi : Value), Hid (L.length ≤ m + 1) ∧ Hid (Fair k q L) ∧ Pool wx p c k (lids L).length q ∧ Toks w.heap.size wx p v L ∧ RefP w.heap.size wx x k vr vl vi q (lvs L) (idn L) ∧ Below w.heap.size w wx)
            case first =>
              obtain ⟨g, rfl⟩ : ∃ g, A = some ⟨g, 0, none⟩ := by
                rcases hT.row.2 with ⟨_, h1⟩ | ⟨g, cap, cur, h1, _⟩
                · exact absurd (HLl.out.trans h1) h0
                · simp at h1; exact ⟨g, h1.1⟩
              have hpos : 0 < Ll := by omega
              have e1 : Int.tdiv (zn : Int) 2 = ((zn / 2 : Nat) : Int) := by rw [Int.tdiv_eq_ediv_of_nonneg (by omega)]; rfl
              have e2 : (zn : Int) / 2 = ((zn / 2 : Nat) : Int) := by omega
              have hzq : zn / 2 ≤ 200 := by omega
              generalize zn / 2 = zq at *
              have hjj := Nat.mod_lt zq hpos
              have e3 : Int.tmod (zq : Int) (Ll : Int) = ((zq % Ll : Nat) : Int) := by rw [Int.tmod_eq_emod_of_nonneg (by omega)]; rfl
              have e4 : (zq : Int) % (Ll : Int) = ((zq % Ll : Nat) : Int) := rfl
              generalize zq % Ll = jj at *
              obtain ⟨y, hy⟩ : ∃ y, L[jj]? = some y := ⟨L[jj]'(by rw [← HLl.out]; exact hjj), List.getElem?_eq_getElem _⟩
              have hcell : wr.cell? ⟨g, jj, none⟩ = some (.pointer (some ⟨y.1, 0, none⟩)) := by
                obtain ⟨g1, cap1, hv, hc1⟩ := hT.cell jj y hy
                simp at hv
                obtain ⟨rfl, -, rfl⟩ := hv
                exact hc1
              have hyT := (hT.tok y (List.mem_of_getElem? hy)).1
              have hby := (hT.tok y (List.mem_of_getElem? hy)).2
              have e5 : IntKind.i64.wrap (jj : Int) = (jj : Int) := IntWalk.i64_in _ (by omega)
              have e6 : ¬ (Ll = 0) := by omega
              have HY := Lib.hid hy
              have hlen := hL.out
              have hlv1 := lvs_get L jj y hy
              have hid1 := idn_get L jj y hy
              have hl1 : (lvs L).length ≤ 1000 := by rw [lvs_len]; omega
              have hl2 : (idn L).length ≤ 1000 := by rw [idn_len]; omega
              clear hy hz h0
              go_wp2_with fail
              cases hlv : y.2.2 with
              | false =>
                rw [hlv] at hyT hlv1
                refine (end_dead p c k 0 [] _ _ _ _ hyT).mono ?_
                rintro e w' ⟨rfl, rfl⟩
                clear e1 e2 e3 e4 e5 e6
                go_wp2_with fail
                refine (refEnd_dead _ _ _ _ _ _ _ _ _ _ _ hR hlv1 hl1).mono ?_
                rintro e w' ⟨rfl, rfl⟩
                go_wp2_with fail
                go_meet
                exact ⟨L, q, vr, vl, vi, Lib.hid (by omega), hF, hP, hT, hR, hB⟩
              | true =>
                rw [hlv] at hyT hlv1
                obtain ⟨hF2, hq2, hl3⟩ := hF.out.end_ jj y HY.out hlv
                have hlF := hF.out.len
                refine (end_ok _ _ _ _ _ _ _ _ hP hyT hq2 (by omega)).mono ?_
                rintro e wt ⟨rfl, hQ, hxF, hs, hK⟩
                have hT2 := hT.end_ hP jj y HY.out hxF hK
                have hR2 := hR.end_ hP hyT hK
                have hB2 := hB.trans (hK.below hB.size (by simp; exact ⟨gp, gc, hby⟩))
                have hcnt := (lids_set L jj y HY.out hlv).length_eq
                rw [List.length_cons] at hcnt
                clear hs e1 e2 e3 e4 e5 e6 hP hT hR hB hK hyT
                have HC := Lib.hid hcnt
                clear hcnt
                go_wp2_with fail
                refine (refEnd_ok _ _ _ _ _ _ _ _ _ _ _ _ hR2 hlv1 hid1 hl1 hl2 (by omega)).mono ?_
                rintro e wu ⟨vr', rfl, hR3, hKR⟩
                have hQ3 := hQ.keepR hKR
                have hT3 := hT2.keepR hKR
                have hB3 := hB2.trans hKR.below
                rw [← lvs_set L jj y, ← idn_set L jj y HY.out] at hR3
                clear hQ hT2 hB2 hKR hR2 hxF
                go_wp2_with fail
                go_meet
                refine ⟨L.set jj (y.1, y.2.1, false), q ++ [y.2.1], _, _, _, Lib.hid (by rw [List.length_set]; omega), Lib.hid hF2, ?_, hT3, hR3, hB3⟩
                have e7 : ((lids (L.set jj (y.1, y.2.1, false))).length : Int) = ((lids L).length : Int) - 1 := by have := HC.out; omega
                rw [e7]
                exact hQ3
            case rest =>
              clear hP hT hB hF hL hz hR HLl
              obtain ⟨L, q, vr, vl, vi, hL, hF, hP, hT, hR, hB⟩ := hcut
              obtain ⟨Ll, hLl⟩ : ∃ Ll, Ll = L.length := ⟨_, rfl⟩
              have hLm : Ll ≤ 81 := by have := hL.out; omega
              obtain ⟨A, cp, rfl⟩ : ∃ A cp, u9 = .slice A Ll cp := by
                rcases hT.row.2 with ⟨h1, h2⟩ | ⟨g, cap, cur, h1, _⟩
                · exact ⟨none, 0, by rw [h1, hLl, h2]⟩
                · exact ⟨_, _, by rw [h1, hLl]⟩
              have HLl := Lib.hid hLl
              have HT := Lib.hid hT
              have HR := Lib.hid hR
              have HP := Lib.hid hP
              have HB := Lib.hid hB
              clear hLl hT hR hP hB
              go_wp2_with fail
              go_loopw [17, 106] (fun lv j wr => ∃ jn z : Nat, jn ≤ Ll ∧ j = .int .i64 jn ∧ lv = .int .i64 (lids (L.take jn)).length ∧ wr = wc.drewN z) (fun lv j wr => Ll - (intOf j).toNat)
              case atStart => exact ⟨0, 0, by omega, rfl, rfl, rfl⟩
              case round =>
                obtain ⟨jn, z, hjn, rfl, rfl, rfl⟩ := hrel
                have E2 : IntKind.i64.wrap ((jn : Int) + 1) = ((jn + 1 : Nat) : Int) := by rw [IntWalk.i64_in _ (by omega)]; omega
                have hcl := lids_take_le L jn
                have hT := HT.out.drewN z
                have hR := HR.out.drewN z
                have HDD := Lib.hid (fun y => (by simp [World.drewN, Nat.add_assoc] : (wc.drewN z).drewN y = wc.drewN (z + y)))
                by_cases hjl : jn < Ll
                · obtain ⟨y, hy⟩ : ∃ y, L[jn]? = some y := ⟨L[jn]'(by rw [← HLl.out]; exact hjl), List.getElem?_eq_getElem _⟩
                  obtain ⟨g, cp1, hv, hcell⟩ := hT.cell jn y hy
                  obtain rfl : A = some ⟨g, 0, none⟩ := by simp at hv; exact hv.1
                  have hyT : Tok (wc.drewN z) y.1 p y.2.1 y.2.2 := (hT.tok y (List.mem_of_getElem? hy)).1
                  obtain ⟨gl, cl, gi, ci, q1, q2, x1, x2, x3, x4, l1, l2⟩ := hR.at jn y.2.2 y.2.1 (lvs_get L jn y hy) (idn_get L jn y hy)
                  rw [lvs_len, ← HLl.out] at q1 l1
                  rw [idn_len, ← HLl.out] at q2 l2
                  have x3' : (wc.drewN z).cell? ⟨x, 2, none⟩ = some (.slice (some ⟨gl, 0, none⟩) Ll cl) := by rw [← q1]; exact x3
                  have x4' : (wc.drewN z).cell? ⟨x, 3, none⟩ = some (.slice (some ⟨gi, 0, none⟩) Ll ci) := by rw [← q2]; exact x4
                  have htk := Lib.hid (lids_take_succ L jn y hy)
                  have B1 : (jn : Int) < (Ll : Int) := by omega
                  have B2 : (0 : Int) ≤ (jn : Int) := by omega
                  unfold at0 at hcell
                  have hee : ((y.2.1 : Int) == (y.2.1 : Int)) = true := by simp
                  clear hv hT hR q1 q2 x3 x4 l1 l2 hy
                  generalize wc.drewN z = W at *
                  cases hlv : y.2.2 with
                  | true =>
                    rw [hlv] at hyT x1 htk
                    have hE : IntKind.i64.wrap (((lids (L.take jn)).length : Int) + 1) = (((lids (L.take jn)).length + 1 : Nat) : Int) := by rw [IntWalk.i64_in _ (by omega)]; omega
                    go_wp2_with fail
                    go_quiet ((first | (go_at_call 38; exact Calls.quiet_of_same (live_q hyT _)) | (go_at_call 35; exact Calls.quiet_of_same (id_q hyT _))))
                    have hd := HDD.out nq
                    have hyT1 : Tok (W.drewN nq) y.1 p y.2.1 true := hyT
                    have HD := Lib.hid hd
                    clear hd hyT x1 x2 x3' x4' hcell
                    generalize W.drewN nq = W1 at *
                    go_wp2_with fail
                    refine (live_any _ _ _ _ _ hyT1).mono ?_
                    rintro e w' ⟨rfl, rfl⟩
                    go_wp2_with fail
                    have hlen1 : (lids (L.take (jn + 1))).length = (lids (L.take jn)).length + 1 := by rw [htk.out]; simp
                    exact ⟨⟨jn + 1, _, by omega, by go_num, by rw [hlen1]; rfl, HD.out⟩, by simp [intOf]; omega⟩
                  | false =>
                    rw [hlv] at hyT x1 htk
                    go_wp2_with fail
                    go_quiet ((first | (go_at_call 38; exact Calls.quiet_of_same (live_q hyT _)) | (go_at_call 35; exact Calls.quiet_of_same (id_q hyT _))))
                    have hd := HDD.out nq
                    have hyT1 : Tok (W.drewN nq) y.1 p y.2.1 false := hyT
                    have HD := Lib.hid hd
                    clear hd hyT x1 x2 x3' x4' hcell
                    generalize W.drewN nq = W1 at *
                    go_wp2_with fail
                    refine (live_any _ _ _ _ _ hyT1).mono ?_
                    rintro e w' ⟨rfl, rfl⟩
                    go_wp2_with fail
                    have hsame : lids (L.take (jn + 1)) = lids (L.take jn) := by rw [htk.out]; simp
                    exact ⟨⟨jn + 1, _, by omega, by go_num, by rw [hsame], HD.out⟩, by simp [intOf]; omega⟩
                · obtain rfl : jn = Ll := by omega
                  have hPi := HP.out.drewN z
                  have hBe := below_drewT HB.out z
                  have htl : lids (L.take jn) = lids L := by rw [HLl.out, List.take_length]
                  rw [htl] at hcl ⊢
                  generalize wc.drewN z = W at *
                  have hee : (((lids L).length : Int) == ((lids L).length : Int)) = true := by simp
                  have hkk : ((k : Int) == (k : Int)) = true := by simp
                  clear htl
                  go_wp2_with fail
                  refine (out_any _ _ _ _ _ _ hPi).mono ?_
                  rintro e w' ⟨rfl, rfl⟩
                  go_wp2_with fail
                  refine (room_any _ _ _ _ _ _ hPi).mono ?_
                  rintro e w' ⟨rfl, rfl⟩
                  go_wp2_with fail
                  go_roundw
                  case rel =>
                    exact ⟨m + 1, by omega, by omega, by go_num, L, q, vr, vl, vi, hL, hF, hPi, hT, hR, hBe⟩
                  case measure => simp [intOf]; omega
      · go_wp2_with fail
        go_ret
        exact ⟨rfl, hB⟩
    · go_wp2_with fail
      go_ret
      exact ⟨rfl, hB⟩

theorem walk (n : Int) (a : Option Addr) (len cap : Nat) (zs : List Int) (w : World) (w0 : (Lit.int .u8 n).wf = true) (hrow : IsRow .u8 w a len cap zs) :
    Calls Try.prog 8 #[.int .u8 n, .slice a len cap] w fun e w' => e = .returned (.bool true) ∧ Below w.heap.size w w' := by
  have hb := bounds_u8 w0
  exact walk' (1 + n % 12).toNat n a len cap zs w (by omega) (Lib.hid (by omega)) (by omega) hrow

/-! ### THE ROW's STEP -/
set_option maxRecDepth 100000 in
theorem lifted (os : Os) (started : os.Started) (H : Type) (enc : TypeId × Value → H) :
    ReturnsInHanded {} Try.checked os 8 .any (Rows.tokenPlaysSpec.pre6 enc Try.prog Try.f8 Rows.tokenPlaysRow.domain false) (Rows.tokenPlaysSpec.post enc Try.prog Try.f8 false true false false) := by
  refine returnsInHanded_of_change (C := Try.checked) own started (by kernel_rfl) Try.func8
    (ChangeSpec.witness6 (enc := enc) (C := Try.checked) false ⟨#[], #[.int .u8 0, .slice none 0 0], []⟩ 8 (by kernel_rfl) (by kernel_rfl) (by kernel_rfl) (by kernel_rfl)) ?_
  intro W base args ds gs before hval0 hW hcnd _
  have hval : ∀ (j : Nat) t v, Try.f8.params[j]? = some t → args[j]? = some v → Value.okWide Try.prog W .any base t v := hval0
  have hW' := hW
  obtain ⟨p, q, hA0, hV, rfl, hfz, hnd⟩ := hW
  have hA : DataW.TrodAll enc Try.prog W 0 (fun _ => true) true Try.f8.params.toList args.toList ds p := hA0
  rw [Try.params8] at hA hval
  obtain ⟨v0, vs0, d0, ds0, p0, q0, hargs, rfl, rfl, h0, r0⟩ := trodAll_cons hA
  obtain ⟨v1, vs1, d1, ds1, p1, q1, rfl, rfl, rfl, h1, r1⟩ := trodAll_cons r0
  obtain ⟨rfl, rfl, rfl⟩ := trodAll_nil r1
  obtain rfl : args = #[v0, v1] := by cases args; simp_all
  obtain ⟨rfl, rfl⟩ := trodVars_none hV
  have k0 := h0
  have lt0 : ∀ x ∈ p0, x.block < W.heap.size := by obtain ⟨m, hm⟩ := k0; exact DataW.trod_lt m _ _ _ hm
  obtain ⟨a0, rfl, rfl, rfl, w0⟩ := open_int Try.underlying5 (hval 0 5 v0 rfl rfl) h0
  obtain ⟨a1, len1, cap1, rfl⟩ := okWide_slice Try.underlying44 (hval 1 44 v1 rfl rfl)
  have k1 := h1
  have lt1 : ∀ x ∈ p1, x.block < W.heap.size := by obtain ⟨m, hm⟩ := k1; exact DataW.trod_lt m _ _ _ hm
  obtain ⟨z1, w1⟩ : ∃ zs, IsRow .u8 W a1 len1 cap1 zs := by
    obtain ⟨fuel, hf⟩ := h1
    rcases open_ints Try.underlying44 Try.underlying5 (by kernel_rfl) hf with ⟨hcs, _⟩ | ⟨x, l, c, zs, hcs, _, hl, hm, hz, _, hcell, hwz⟩
    · simp [Value.cells] at hcs
      obtain ⟨rfl, rfl, rfl⟩ := hcs
      exact ⟨[], .inl ⟨rfl, rfl, rfl, rfl⟩⟩
    · simp [Value.cells] at hcs
      obtain ⟨rfl, rfl, rfl⟩ := hcs
      exact ⟨zs, .inr ⟨_, rfl, hl, hm, by simpa using hz, hcell, hwz⟩⟩
  clear hA0 hval0
  refine (walk a0 a1 len1 cap1 z1 W w0 w1).mono fun e W' ⟨he, bel⟩ => ?_
  subst he
  exact ⟨_, rfl, _, _, _, [], _, [], hW', trodAll_mk1 (shut_bool Try.underlying4 _), (trodAll_cons_mk (Below.trod laidOut (by kernel_rfl) (of_decide_eq_true (by kernel_rfl)) k0 bel lt0) (trodAll_cons_mk (Below.trod laidOut (by kernel_rfl) (of_decide_eq_true (by kernel_rfl)) k1 bel lt1) trodAll_mk0)), rfl, bel.frame _, fun h => by cases h⟩

theorem over : Rows.tokenPlaysRow.holds Try.pinned (OpenSpec.ofChange Rows.tokenPlaysSpec) :=
  OpenClaim.holds_of_wide 8 Try.f8 rfl rfl rfl rfl rfl rfl rfl ⟨rfl, rfl, rfl, rfl, rfl⟩ rfl rfl rfl rfl rfl (by kernel_rfl) Try.func8 (by kernel_rfl)
    (of_decide_eq_true (by kernel_rfl)) (by unfold Func.isWrapper; first | (rw [if_pos (by decide +kernel)]; kernel_rfl) | (rw [if_neg (by decide +kernel)]; exact ⟨rfl, rfl⟩))
    (fun os started H enc _ => lifted os started H enc)

theorem proved : Rows.TokenPlaysSaid := over
#print axioms proved
end Go.Proofs.Ytfipifjlmepooaa.tokenPlays
