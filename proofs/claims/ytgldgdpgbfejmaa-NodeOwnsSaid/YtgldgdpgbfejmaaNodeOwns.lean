/- NodeOwns: for every list of pairs, every list of chunks, and whether the token has ended or not, the law returns true: by a live token all changes of a node of its own are made in that very node; by another one, or none, each makes another one. Conditions: none beyond the given statement. -/
import Derived.Test.YtgldgdpgbfejmaaRows
import Derived.WalkKit
import Derived.ProofKit
import Derived.OpenShut
import Derived.ShutString
import Derived.ChangeOld
import Derived.Below
import Derived.BigQuiet
import Derived.Deep.RegionHeld3
import Derived.Carry
import Derived.Lib.SmallJoins
import Derived.Test.YtgldgdpgbfejmaaNs
namespace Go.Proofs.Ytgldgdpgbfejmaa.nodeOwns
open Go.ChangeShapes Go.WideShapes Go.ChangeAt Go.RowKit Go.Joins Go.Lib Go.Conc
open Go.ChangeMaps (open_string shut_string)
set_option linter.unusedVariables false
set_option linter.unusedSimpArgs false

theorem own : ownKnob Try.prog.godebug = none := by kernel_rfl
theorem laidOut : laidOutB Try.prog = true := by kernel_rfl


set_option maxRecDepth 100000 in
set_option maxHeartbeats 16000000 in
theorem walk_false (a0 : Option Addr) (len0 cap0 : Nat) (ps : List Pr) (a1 : Option Addr) (len1 cap1 : Nat) (zs : List Int) (w : World) (hp : ArgP w a0 len0 cap0 ps) (hz : IsRow .u8 w a1 len1 cap1 zs) :
    Calls Try.prog 6 #[.slice a0 len0 cap0, .slice a1 len1 cap1, .bool false] w fun e w' => e = .returned (.bool true) ∧ Below w.heap.size w w' := by
  have hl0 := hp.len_le
  have hl1 := hz.len_le
  have HP := Lib.hid hp
  have HZ := Lib.hid hz
  clear hp hz
  go_enter Try.func6, Try.ntmps6
  go_wp2_with fail
  refine (awake5 w).mono ?_
  rintro e w1 ⟨rfl, hB1⟩
  go_wp2_with fail
  refine (new_is 2 w1 (by omega) (by omega)).mono ?_
  rintro e w2 ⟨p, c, rfl, hP2, hp, hc, hB2⟩
  have hB := hB1.trans (hB2.mono hB1.size)
  have s1 := hB1.size
  have gp : w.heap.size ≤ p := by omega
  have gc : w.heap.size ≤ c := by omega
  clear hB1 hB2 hp hc s1
  unfold at0
  go_wp2_with fail
  refine (take_is _ _ _ _ _ _ _ hP2 (by omega)).mono ?_
  rintro e w3 ⟨t, rfl, hP3, hT3, ht, hK3⟩
  have hB3 := hB.trans (hK3.below (B := w.heap.size) hB.size (by simp; exact ⟨gp, gc⟩))
  have gt : w.heap.size ≤ t := Nat.le_trans hB.size ht
  clear hB hP2 hK3
  unfold at0
  go_wp2_with fail
  refine (take_is _ _ _ _ _ _ _ hP3 (by omega)).mono ?_
  rintro e w4 ⟨u, rfl, hP4, hU4, hu, hK4⟩
  have hT4 := hT3.keep hK4 (by have := hT3.ne hP3; simp; exact this)
  have hB4 := hB3.trans (hK4.below (B := w.heap.size) hB3.size (by simp; exact ⟨gp, gc⟩))
  have hne : t ≠ u := by have := hT3.lt; omega
  clear hB3 hP3 hK4 hT3
  unfold at0
  go_wp2_with fail
  refine (Inn.new w4).mono ?_
  rintro e w5 ⟨b0, rfl, hb0, hN5, hB5⟩
  have hT5 := hT4.keep (Keep.of_below (X := []) hB5) (by simp)
  have hU5 := hU4.keep (Keep.of_below (X := []) hB5) (by simp)
  have hP5 := hP4.keep (Keep.of_below (X := []) hB5) (by simp) (by simp)
  have hB6 := hB4.trans (hB5.mono hB4.size)
  have hs5 := hB5.size
  have hsp := Inn.setPair w4.heap.size b0 0 none (some t) false true _ _ _ w5 hN5 (TV.tok hT5) (TV.nil _) (by omega) hs5 (⟨#[]⟩, ⟨#[]⟩)
  unfold pt Pr.v at hsp
  unfold at0 at hsp ⊢
  clear hT4 hU4 hP4 hB5
  go_wp2_with fail
  refine hsp.mono ?_
  rintro e w6 ⟨b, pv, kv, rfl, hN6, hc6⟩
  have hbel := hc6.keepNew
  have hT6 := hT5.keep (Keep.of_below (X := []) hbel) (by simp)
  have hU6 := hU5.keep (Keep.of_below (X := []) hbel) (by simp)
  have hP6 := hP5.keep (Keep.of_below (X := []) hbel) (by simp) (by simp)
  have hB7 := hB6.trans (hbel.mono hB6.size)
  have hN7 := hN6.base (B' := w.heap.size) hB4.size
  clear hsp hN5 hT5 hU5 hP5 hB6 hbel hN6 hB4 hs5 hc6
  have hNx := hN7
  have hTx := hT6
  have hUx := hU6
  have hBx := hB7
  clear hN7 hT6 hU6 hB7 hP6
  unfold newOw at hNx
  unfold at0
  go_wp2_with fail
  go_loopw [13, 49] (fun vn vi wr => ∃ (k bb : Nat) (S : Slots) (pv kv : Value) (ow : Option Nat), vi = .int .i64 k ∧ k ≤ len0 ∧ k ≤ 15 ∧ vn = .pointer (some ⟨bb, 0, none⟩) ∧ ow = some t ∧ Inn w.heap.size wr bb ow S pv kv ∧ Tok wr t p 1 true ∧ Tok wr u p 2 true ∧ Below w.heap.size w wr) (fun vn vi wr => len0 - (intOf vi).toNat)
  case atStart => exact ⟨0, b, _, pv, kv, some t, rfl, by omega, by omega, rfl, rfl, hNx, hTx, hUx, hBx⟩
  case round =>
    clear hNx hTx hUx hBx
    obtain ⟨k, bb, S, pv, kv, ow, rfl, hk, hk15, rfl, rfl, hN, hT, hU, hW⟩ := hrel
    have E1 : IntKind.i64.wrap ((k : Int) + 1) = ((k + 1 : Nat) : Int) := by rw [IntWalk.i64_in _ (by omega)]; omega
    by_cases hlt : k < len0
    · obtain ⟨x, q, rfl, x0, x1⟩ := HP.out.at hW k hlt
      have B0 : (k : Int) < (len0 : Int) := by omega
      have hBb := (Below.refl _ wr).alloc (Nat.le_refl _) (.cells #[.string q.1, .string q.2] 27)
      have hWb := hW.alloc hW.size (.cells #[.string q.1, .string q.2] 27)
      have hbx := Blk.new wr 27 #[.string q.1, .string q.2]
      have hN1 := hN.below hBb
      have hT1 := hT.keep (Keep.of_below (X := []) hBb) (by simp)
      have hU1 := hU.keep (Keep.of_below (X := []) hBb) (by simp)
      have HFL := Lib.hid hN.footLt
      by_cases h15 : k < 15
      · by_cases hl : k < len1
        · obtain ⟨y, z, rfl, y0, hz0, hz1⟩ := HZ.out.at hW k hl
          have y1 := (hBb.cell (World.block_lt_of_cell? wr _ y0)).trans y0
          obtain ⟨zn, rfl⟩ := Int.eq_ofNat_of_zero_le hz0
          have B1 : (k : Int) < (len1 : Int) := by omega
          obtain ⟨cn, hcn⟩ : ∃ cn, cn = zn % 32 := ⟨_, rfl⟩
          have hc32 : cn < 32 := by omega
          have e3 : Int.tmod (zn : Int) 32 = (cn : Int) := by rw [Int.tmod_eq_emod_of_nonneg (by omega)]; omega
          have e4 : (zn : Int) % 32 = (cn : Int) := by omega
          have e5 : IntKind.u8.wrap (cn : Int) = (cn : Int) := by rw [IntKind.wrap_u8]; omega
          have e6 : IntKind.i64.wrap (cn : Int) = (cn : Int) := IntWalk.i64_in _ (by omega)
          have c0 := hbx.cell 0
          have c1 := hbx.cell 1
          simp only [List.getElem?_toArray, List.getElem?_cons_succ, List.getElem?_cons_zero] at c0 c1
          clear hcn hN hT hU hBb hW y0
          go_upto_region 13 with (fail)
          generalize wr.alloc (.cells #[.string q.1, .string q.2] 27) = WB at *
          obtain ⟨N, hNN⟩ : ∃ N, N = wr.heap.size := ⟨_, rfl⟩
          rw [← hNN] at hbx HFL c0 c1 ⊢
          clear hNN x0 x1
          obtain ⟨lo1, ho1⟩ : ∃ lo1, TV WB (some t) lo1 := ⟨true, TV.tok hT1⟩
          have hsp := Inn.setPair w.heap.size bb cn (some t) (some t) lo1 true S pv kv WB hN1 (TV.tok hT1) ho1 hc32 hWb.size q
          unfold pt Pr.v at hsp
          unfold at0 at hsp
          go_wp2_with fail
          refine hsp.mono ?_
          rintro e m1 ⟨b1, pv1, kv1, rfl, hM, hc⟩
          unfold at0
          have hown : ownB (some t) (some t) true = true := by simp [ownB]
          rw [hown] at hc
          have hT2 := hT1.keep hc.keep (hT1.type (by rw [if_pos rfl]; exact hN1.noTok))
          have hU2 := hU1.keep hc.keep (hU1.type (by rw [if_pos rfl]; exact hN1.noTok))
          have hbx2 := hbx.keep hc.keep (by rw [if_pos rfl]; exact fun hm => by have := HFL.out N hm; omega)
          have hW2 := hWb.trans (hc.belowAt hN1.footGe hWb.size)
          obtain ⟨S1, hS1⟩ : ∃ S1, S1 = S.put cn (.pr q) := ⟨_, rfl⟩
          rw [← hS1] at hM
          obtain ⟨cb, hcb⟩ := hM.blk
          obtain rfl := hc.place rfl
          have hcmp := eql_node_same b1 m1
          unfold at0 at hcmp
          clear hsp hN1 hT1 hU1 hbx hWb hc c0 c1 y1 ho1
          unfold newOw at hM
          simp only [Bool.false_eq_true, if_true, if_false] at hM
          have hln := Inn.len _ _ _ _ _ _ m1 hM
          obtain ⟨n0, hn0⟩ : ∃ n0, n0 = tot S1 := ⟨_, rfl⟩
          have ht0 : (fm S1.P 32).length + (fm S1.K 32).length = n0 := by rw [hn0]; rfl
          rw [ht0] at hln
          have hn0le : n0 ≤ 64 := by rw [hn0]; exact tot_le _
          have HS1 := Lib.hid hS1
          have Hn0 := Lib.hid hn0
          clear ht0 hS1 hn0
          unfold at0 at hln
          go_wp2_with fail
          refine hln.mono ?_
          rintro e w' ⟨rfl, kk, rfl⟩
          have hM3 := hM.drewN kk
          have hT3 : Tok (m1.drewN kk) t p 1 true := hT2
          have hU3 : Tok (m1.drewN kk) u p 2 true := hU2
          have hbx3 : Blk (m1.drewN kk) N 27 #[.string q.1, .string q.2] := hbx2
          have hW3 : Below w.heap.size w (m1.drewN kk) := ⟨hW2.os, hW2.tape, hW2.output, hW2.size, hW2.block⟩
          clear hM hT2 hU2 hbx2 hW2 hln hcmp hcb
          generalize m1.drewN kk = m3 at *
          have c0 := hbx3.cell 0
          have c1 := hbx3.cell 1
          simp only [List.getElem?_toArray, List.getElem?_cons_succ, List.getElem?_cons_zero] at c0 c1
          have hso := Inn.setPair w.heap.size b1 cn (some t) (some u) true true S1 pv1 kv1 m3 hM3 (TV.tok hU3) (TV.tok hT3) hc32 hW3.size (q.1, ⟨#[111, 116, 104, 101, 114]⟩)
          have hownu : ownB (some t) (some u) true = false := by simp [ownB]; exact hne
          rw [hownu] at hso
          unfold pt Pr.v at hso
          unfold at0 at hso
          go_wp2_with fail
          refine hso.mono ?_
          rintro e m4 ⟨bo, po, ko, rfl, hOo, hco⟩
          unfold at0
          have hBo := hco.keepNew
          have hob := hco.new rfl
          have hlo : b1 < m3.heap.size := by obtain ⟨cs, hbb⟩ := hM3.blk; exact hbb.lt
          have hM4 := hM3.below hBo
          have hT4 := hT3.keep (Keep.of_below (X := []) hBo) (by simp)
          have hU4 := hU3.keep (Keep.of_below (X := []) hBo) (by simp)
          have hbx4 := hbx3.below hBo
          have hW4 := hW3.trans (hBo.mono hW3.size)
          clear hso hM3 hT3 hU3 hbx3 hW3 hco c0 c1 hownu
          have hsz := Inn.clear w.heap.size b1 cn (some t) none true false S1 pv1 kv1 m4 hM4 (TV.nil _) (TV.tok hT4) hc32 hW4.size
          unfold pt at hsz
          unfold at0 at hsz
          go_wp2_with fail
          refine hsz.mono ?_
          rintro e m5 ⟨bz, pz, kz, rfl, hZz, hcz⟩
          unfold at0
          have hBz := hcz.keepNew
          have hzb := hcz.new rfl
          have hM5 := hM4.below hBz
          have hO5 := hOo.below hBz
          have hT5 := hT4.keep (Keep.of_below (X := []) hBz) (by simp)
          have hU5 := hU4.keep (Keep.of_below (X := []) hBz) (by simp)
          have hbx5 := hbx4.below hBz
          have hW5 := hW4.trans (hBz.mono hW4.size)
          have hs4 := hBo.size
          obtain ⟨cm, hcm⟩ := hM5.blk
          obtain ⟨co, hco⟩ := hO5.blk
          obtain ⟨cz, hcz'⟩ := hZz.blk
          have q1 := eql_node_other m5 (a := bo) (b := b1) (by omega) hco hcm
          have q2 := eql_node_other m5 (a := bz) (b := b1) (by omega) hcz' hcm
          unfold at0 at q1 q2
          have r1 := Inn.owned _ _ (some u) (some u) true true _ _ _ m5 hO5 (TV.tok hU5) (TV.tok hU5)
          have r1' : ownB (some u) (some u) true = true := by simp [ownB]
          have r2 := Inn.owned _ _ none (some t) false true _ _ _ m5 hZz (TV.tok hT5) (TV.nil _)
          have r2' : ownB none (some t) true = false := by simp [ownB]
          rw [r1'] at r1
          rw [r2'] at r2
          unfold pt at r1 r2
          unfold at0 at r1 r2
          have HT2 := Lib.hid (tot_other S cn q (q.1, ⟨#[111, 116, 104, 101, 114]⟩) hc32)
          have HT3 := Lib.hid (tot_clear S cn q hc32)
          obtain ⟨n3, hn3⟩ : ∃ n3, n3 = tot (S1.put cn .no) := ⟨_, rfl⟩
          have hn03 : n0 = n3 + 1 := by rw [Hn0.out, hn3, HS1.out]; exact HT3.out.symm
          have lz := Inn.len _ _ _ _ _ _ m5 hZz
          rw [show (fm (S1.put cn .no).P 32).length + (fm (S1.put cn .no).K 32).length = n3 by rw [hn3]; rfl] at lz
          have F1 : IntKind.i64.wrap ((n0 : Int) - 1) = (n3 : Int) := by rw [IntWalk.i64_in _ (by omega)]; omega
          clear hn3 hBo hBz hob hzb hcz hsz hOo hM4 hT4 hU4 hbx4 hW4 hcm hco hcz' r1' r2' hlo hs4 hn03
          unfold at0 at lz
          go_wp2_with fail
          refine r1.mono ?_
          rintro e w' ⟨rfl, rfl⟩
          go_wp2_with fail
          refine r2.mono ?_
          rintro e w' ⟨rfl, rfl⟩
          go_wp2_with fail
          refine lz.mono ?_
          rintro e w' ⟨rfl, k5, rfl⟩
          have hM6 := hM5.drewN k5
          have hO6 := hO5.drewN k5
          have hT6 : Tok (m5.drewN k5) t p 1 true := hT5
          have hU6 : Tok (m5.drewN k5) u p 2 true := hU5
          have hbx6 : Blk (m5.drewN k5) N 27 #[.string q.1, .string q.2] := hbx5
          have hW6 : Below w.heap.size w (m5.drewN k5) := ⟨hW5.os, hW5.tape, hW5.output, hW5.size, hW5.block⟩
          clear hM5 hO5 hT5 hU5 hbx5 hW5 q1 q2 r1 r2 lz hZz
          generalize m5.drewN k5 = m6 at *
          have lm := Inn.len _ _ _ _ _ _ m6 hM6
          rw [show (fm S1.P 32).length + (fm S1.K 32).length = n0 by rw [Hn0.out]; rfl] at lm
          unfold at0 at lm
          go_wp2_with fail
          refine lm.mono ?_
          rintro e w' ⟨rfl, k6, rfl⟩
          have hM7 := hM6.drewN k6
          have hO7 := hO6.drewN k6
          have hT7 : Tok (m6.drewN k6) t p 1 true := hT6
          have hU7 : Tok (m6.drewN k6) u p 2 true := hU6
          have hbx7 : Blk (m6.drewN k6) N 27 #[.string q.1, .string q.2] := hbx6
          have hW7 : Below w.heap.size w (m6.drewN k6) := ⟨hW6.os, hW6.tape, hW6.output, hW6.size, hW6.block⟩
          clear hM6 hO6 hT6 hU6 hbx6 hW6 lm
          generalize m6.drewN k6 = m7 at *
          have lo := Inn.len _ _ _ _ _ _ m7 hO7
          rw [show (fm (S1.put cn (.pr (q.1, ⟨#[111, 116, 104, 101, 114]⟩))).P 32).length + (fm (S1.put cn (.pr (q.1, ⟨#[111, 116, 104, 101, 114]⟩))).K 32).length = n0 by rw [Hn0.out, HS1.out]; exact HT2.out] at lo
          unfold at0 at lo
          go_wp2_with fail
          refine lo.mono ?_
          rintro e w' ⟨rfl, k7, rfl⟩
          have hM8 := hM7.drewN k7
          have hT8 : Tok (m7.drewN k7) t p 1 true := hT7
          have hU8 : Tok (m7.drewN k7) u p 2 true := hU7
          have hbx8 : Blk (m7.drewN k7) N 27 #[.string q.1, .string q.2] := hbx7
          have hW8 : Below w.heap.size w (m7.drewN k7) := ⟨hW7.os, hW7.tape, hW7.output, hW7.size, hW7.block⟩
          clear hM7 hO7 hT7 hU7 hbx7 hW7 lo
          generalize m7.drewN k7 = m8 at *
          have pr := Inn.pair _ _ cn _ _ _ _ m8 hM8 hc32
          have hpq : S1.P cn = some q := by rw [HS1.out]; exact (S.P_put cn (.pr q)).1
          rw [hpq] at pr
          unfold at0 at pr
          clear hpq
          go_wp2_with fail
          refine pr.mono ?_
          rintro e m9 ⟨rfl, hB9⟩
          have hM9 := hM8.below hB9
          have hT9 := hT8.keep (Keep.of_below (X := []) hB9) (by simp)
          have hU9 := hU8.keep (Keep.of_below (X := []) hB9) (by simp)
          have hbx9 := hbx8.below hB9
          have hW9 := hW8.trans (hB9.mono hW8.size)
          clear hM8 hT8 hU8 hbx8 hW8 hB9 pr
          have hBA := (Below.refl _ m9).alloc (Nat.le_refl _) (.cells #[.string q.1, .string q.2] 27)
          have hMA := hM9.below hBA
          have hTA := hT9.keep (Keep.of_below (X := []) hBA) (by simp)
          have hUA := hU9.keep (Keep.of_below (X := []) hBA) (by simp)
          have hbxA := hbx9.below hBA
          have hWA := hW9.trans (hBA.mono hW9.size)
          have hbn := Blk.new m9 27 #[.string q.1, .string q.2]
          have g0 := hbxA.cell 0
          have g1 := hbxA.cell 1
          have g2 := hbn.cell 0
          have g3 := hbn.cell 1
          simp only [List.getElem?_toArray, List.getElem?_cons_succ, List.getElem?_cons_zero] at g0 g1 g2 g3
          have hnq : ∀ w, (binOp .neq 27 (.agg #[.string q.1, .string q.2]) (.agg #[.string q.1, .string q.2])).run Try.prog w = .ok (.bool false) w := fun w => by rw [neq33 q q w]; simp [peq]
          unfold optP Pr.v
          clear hM9 hT9 hU9 hbx9 hW9 hBA hbn hbxA
          go_wp2_with fail
          refine ⟨⟨k + 1, b1, S1, pv1, kv1, (some t), by go_num, by omega, by omega, rfl, rfl, hMA, hTA, hUA, hWA⟩, by simp [intOf]; omega⟩
        · have B1 : ¬ ((k : Int) < (len1 : Int)) := by omega
          obtain ⟨lo1, ho1⟩ : ∃ lo1, TV _ (some t) lo1 := ⟨true, TV.tok hT1⟩
          have r := Inn.owned _ _ (some t) (some t) lo1 true _ _ _ _ hN1 (TV.tok hT1) ho1
          have hown : ownB (some t) (some t) true = true := by simp [ownB]
          rw [hown] at r
          unfold pt at r
          unfold at0 at r
          clear hN hT hU hBb hW
          go_wp2_with fail
          generalize wr.alloc (.cells #[.string q.1, .string q.2] 27) = WB at *
          refine r.mono ?_
          rintro e w' ⟨rfl, rfl⟩
          go_wp2_with fail
          go_ret
          exact ⟨rfl, hWb⟩
      · have B1 : ¬ ((k : Int) < 15) := by omega
        obtain ⟨lo1, ho1⟩ : ∃ lo1, TV _ (some t) lo1 := ⟨true, TV.tok hT1⟩
        have r := Inn.owned _ _ (some t) (some t) lo1 true _ _ _ _ hN1 (TV.tok hT1) ho1
        have hown : ownB (some t) (some t) true = true := by simp [ownB]
        rw [hown] at r
        unfold pt at r
        unfold at0 at r
        clear hN hT hU hBb hW
        go_wp2_with fail
        generalize wr.alloc (.cells #[.string q.1, .string q.2] 27) = WB at *
        refine r.mono ?_
        rintro e w' ⟨rfl, rfl⟩
        go_wp2_with fail
        go_ret
        exact ⟨rfl, hWb⟩
    · obtain ⟨lo1, ho1⟩ : ∃ lo1, TV _ (some t) lo1 := ⟨true, TV.tok hT⟩
      have r := Inn.owned _ _ (some t) (some t) lo1 true _ _ _ _ hN (TV.tok hT) ho1
      have hown : ownB (some t) (some t) true = true := by simp [ownB]
      rw [hown] at r
      unfold pt at r
      unfold at0 at r
      go_wp2_with fail
      refine r.mono ?_
      rintro e w' ⟨rfl, rfl⟩
      go_wp2_with fail
      go_ret
      exact ⟨rfl, hW⟩

set_option maxRecDepth 100000 in
set_option maxHeartbeats 16000000 in
theorem walk_true (a0 : Option Addr) (len0 cap0 : Nat) (ps : List Pr) (a1 : Option Addr) (len1 cap1 : Nat) (zs : List Int) (w : World) (hp : ArgP w a0 len0 cap0 ps) (hz : IsRow .u8 w a1 len1 cap1 zs) :
    Calls Try.prog 6 #[.slice a0 len0 cap0, .slice a1 len1 cap1, .bool true] w fun e w' => e = .returned (.bool true) ∧ Below w.heap.size w w' := by
  have hl0 := hp.len_le
  have hl1 := hz.len_le
  have HP := Lib.hid hp
  have HZ := Lib.hid hz
  clear hp hz
  go_enter Try.func6, Try.ntmps6
  go_wp2_with fail
  refine (awake5 w).mono ?_
  rintro e w1 ⟨rfl, hB1⟩
  go_wp2_with fail
  refine (new_is 2 w1 (by omega) (by omega)).mono ?_
  rintro e w2 ⟨p, c, rfl, hP2, hp, hc, hB2⟩
  have hB := hB1.trans (hB2.mono hB1.size)
  have s1 := hB1.size
  have gp : w.heap.size ≤ p := by omega
  have gc : w.heap.size ≤ c := by omega
  clear hB1 hB2 hp hc s1
  unfold at0
  go_wp2_with fail
  refine (take_is _ _ _ _ _ _ _ hP2 (by omega)).mono ?_
  rintro e w3 ⟨t, rfl, hP3, hT3, ht, hK3⟩
  have hB3 := hB.trans (hK3.below (B := w.heap.size) hB.size (by simp; exact ⟨gp, gc⟩))
  have gt : w.heap.size ≤ t := Nat.le_trans hB.size ht
  clear hB hP2 hK3
  unfold at0
  go_wp2_with fail
  refine (take_is _ _ _ _ _ _ _ hP3 (by omega)).mono ?_
  rintro e w4 ⟨u, rfl, hP4, hU4, hu, hK4⟩
  have hT4 := hT3.keep hK4 (by have := hT3.ne hP3; simp; exact this)
  have hB4 := hB3.trans (hK4.below (B := w.heap.size) hB3.size (by simp; exact ⟨gp, gc⟩))
  have hne : t ≠ u := by have := hT3.lt; omega
  clear hB3 hP3 hK4 hT3
  unfold at0
  go_wp2_with fail
  refine (Inn.new w4).mono ?_
  rintro e w5 ⟨b0, rfl, hb0, hN5, hB5⟩
  have hT5 := hT4.keep (Keep.of_below (X := []) hB5) (by simp)
  have hU5 := hU4.keep (Keep.of_below (X := []) hB5) (by simp)
  have hP5 := hP4.keep (Keep.of_below (X := []) hB5) (by simp) (by simp)
  have hB6 := hB4.trans (hB5.mono hB4.size)
  have hs5 := hB5.size
  have hsp := Inn.setPair w4.heap.size b0 0 none (some t) false true _ _ _ w5 hN5 (TV.tok hT5) (TV.nil _) (by omega) hs5 (⟨#[]⟩, ⟨#[]⟩)
  unfold pt Pr.v at hsp
  unfold at0 at hsp ⊢
  clear hT4 hU4 hP4 hB5
  go_wp2_with fail
  refine hsp.mono ?_
  rintro e w6 ⟨b, pv, kv, rfl, hN6, hc6⟩
  have hbel := hc6.keepNew
  have hT6 := hT5.keep (Keep.of_below (X := []) hbel) (by simp)
  have hU6 := hU5.keep (Keep.of_below (X := []) hbel) (by simp)
  have hP6 := hP5.keep (Keep.of_below (X := []) hbel) (by simp) (by simp)
  have hB7 := hB6.trans (hbel.mono hB6.size)
  have hN7 := hN6.base (B' := w.heap.size) hB4.size
  clear hsp hN5 hT5 hU5 hP5 hB6 hbel hN6 hB4 hs5 hc6
  unfold at0
  go_wp2_with fail
  refine (end_ok _ _ _ _ _ _ _ _ hP6 hT6 (by simp) (by omega)).mono ?_
  rintro e w7 ⟨rfl, hP7, hT7, hs7, hK7⟩
  have hN8 := hN7.keepTok hK7 hP6 hT6
  have hU7 := hU6.keep hK7 (by have := hU6.ne hP6; simp; exact ⟨this.1, this.2, Ne.symm hne⟩)
  have hB8 := hB7.trans (hK7.below (B := w.heap.size) hB7.size (by simp; exact ⟨gp, gc, gt⟩))
  clear hN7 hP6 hT6 hU6 hB7 hK7 hs7 hP7
  have hNx := hN8
  have hTx := hT7
  have hUx := hU7
  have hBx := hB8
  clear hN8 hT7 hU7 hB8
  unfold newOw at hNx
  skip
  go_wp2_with fail
  go_loopw [13, 49] (fun vn vi wr => ∃ (k bb : Nat) (S : Slots) (pv kv : Value) (ow : Option Nat), vi = .int .i64 k ∧ k ≤ len0 ∧ k ≤ 15 ∧ vn = .pointer (some ⟨bb, 0, none⟩) ∧ (ow = none ∨ ow = some t) ∧ Inn w.heap.size wr bb ow S pv kv ∧ Tok wr t p 1 false ∧ Tok wr u p 2 true ∧ Below w.heap.size w wr) (fun vn vi wr => len0 - (intOf vi).toNat)
  case atStart => exact ⟨0, b, _, pv, kv, some t, rfl, by omega, by omega, rfl, .inr rfl, hNx, hTx, hUx, hBx⟩
  case round =>
    clear hNx hTx hUx hBx
    obtain ⟨k, bb, S, pv, kv, ow, rfl, hk, hk15, rfl, hoo, hN, hT, hU, hW⟩ := hrel
    have E1 : IntKind.i64.wrap ((k : Int) + 1) = ((k + 1 : Nat) : Int) := by rw [IntWalk.i64_in _ (by omega)]; omega
    by_cases hlt : k < len0
    · obtain ⟨x, q, rfl, x0, x1⟩ := HP.out.at hW k hlt
      have B0 : (k : Int) < (len0 : Int) := by omega
      have hBb := (Below.refl _ wr).alloc (Nat.le_refl _) (.cells #[.string q.1, .string q.2] 27)
      have hWb := hW.alloc hW.size (.cells #[.string q.1, .string q.2] 27)
      have hbx := Blk.new wr 27 #[.string q.1, .string q.2]
      have hN1 := hN.below hBb
      have hT1 := hT.keep (Keep.of_below (X := []) hBb) (by simp)
      have hU1 := hU.keep (Keep.of_below (X := []) hBb) (by simp)
      have HFL := Lib.hid hN.footLt
      by_cases h15 : k < 15
      · by_cases hl : k < len1
        · obtain ⟨y, z, rfl, y0, hz0, hz1⟩ := HZ.out.at hW k hl
          have y1 := (hBb.cell (World.block_lt_of_cell? wr _ y0)).trans y0
          obtain ⟨zn, rfl⟩ := Int.eq_ofNat_of_zero_le hz0
          have B1 : (k : Int) < (len1 : Int) := by omega
          obtain ⟨cn, hcn⟩ : ∃ cn, cn = zn % 32 := ⟨_, rfl⟩
          have hc32 : cn < 32 := by omega
          have e3 : Int.tmod (zn : Int) 32 = (cn : Int) := by rw [Int.tmod_eq_emod_of_nonneg (by omega)]; omega
          have e4 : (zn : Int) % 32 = (cn : Int) := by omega
          have e5 : IntKind.u8.wrap (cn : Int) = (cn : Int) := by rw [IntKind.wrap_u8]; omega
          have e6 : IntKind.i64.wrap (cn : Int) = (cn : Int) := IntWalk.i64_in _ (by omega)
          have c0 := hbx.cell 0
          have c1 := hbx.cell 1
          simp only [List.getElem?_toArray, List.getElem?_cons_succ, List.getElem?_cons_zero] at c0 c1
          clear hcn hN hT hU hBb hW y0
          go_upto_region 13 with (fail)
          generalize wr.alloc (.cells #[.string q.1, .string q.2] 27) = WB at *
          obtain ⟨N, hNN⟩ : ∃ N, N = wr.heap.size := ⟨_, rfl⟩
          rw [← hNN] at hbx HFL c0 c1 ⊢
          clear hNN x0 x1
          obtain ⟨lo1, ho1⟩ := Inn.tv (base := 0) hT1 hoo
          have hsp := Inn.setPair w.heap.size bb cn ow (some t) lo1 false S pv kv WB hN1 (TV.tok hT1) ho1 hc32 hWb.size q
          unfold pt Pr.v at hsp
          unfold at0 at hsp
          go_wp2_with fail
          refine hsp.mono ?_
          rintro e m1 ⟨b1, pv1, kv1, rfl, hM, hc⟩
          unfold at0
          have hown : ownB ow (some t) false = false := rfl
          rw [hown] at hc
          have hT2 := hT1.keep hc.keep (hT1.type (by simp))
          have hU2 := hU1.keep hc.keep (hU1.type (by simp))
          have hbx2 := hbx.keep hc.keep (by simp)
          have hW2 := hWb.trans (hc.belowAt hN1.footGe hWb.size)
          obtain ⟨S1, hS1⟩ : ∃ S1, S1 = S.put cn (.pr q) := ⟨_, rfl⟩
          rw [← hS1] at hM
          obtain ⟨cb, hcb⟩ := hM.blk
          have hnb := hc.new rfl
          have hbl := Inn.blk hN1
          obtain ⟨cb0, hcb0⟩ := hbl
          have hblt := hcb0.lt
          have hcb1 := hcb0.keep hc.keep (by simp)
          have hcmp := eql_node_other m1 (a := b1) (b := bb) (by omega) hcb hcb1
          unfold at0 at hcmp
          clear hcb0 hcb1 hblt hnb
          clear hsp hN1 hT1 hU1 hbx hWb hc c0 c1 y1 ho1
          unfold newOw at hM
          simp only [Bool.false_eq_true, if_true, if_false] at hM
          have hln := Inn.len _ _ _ _ _ _ m1 hM
          obtain ⟨n0, hn0⟩ : ∃ n0, n0 = tot S1 := ⟨_, rfl⟩
          have ht0 : (fm S1.P 32).length + (fm S1.K 32).length = n0 := by rw [hn0]; rfl
          rw [ht0] at hln
          have hn0le : n0 ≤ 64 := by rw [hn0]; exact tot_le _
          have HS1 := Lib.hid hS1
          have Hn0 := Lib.hid hn0
          clear ht0 hS1 hn0
          unfold at0 at hln
          go_wp2_with fail
          refine hln.mono ?_
          rintro e w' ⟨rfl, kk, rfl⟩
          have hM3 := hM.drewN kk
          have hT3 : Tok (m1.drewN kk) t p 1 false := hT2
          have hU3 : Tok (m1.drewN kk) u p 2 true := hU2
          have hbx3 : Blk (m1.drewN kk) N 27 #[.string q.1, .string q.2] := hbx2
          have hW3 : Below w.heap.size w (m1.drewN kk) := ⟨hW2.os, hW2.tape, hW2.output, hW2.size, hW2.block⟩
          clear hM hT2 hU2 hbx2 hW2 hln hcmp hcb
          generalize m1.drewN kk = m3 at *
          have c0 := hbx3.cell 0
          have c1 := hbx3.cell 1
          simp only [List.getElem?_toArray, List.getElem?_cons_succ, List.getElem?_cons_zero] at c0 c1
          have hso := Inn.setPair w.heap.size b1 cn none (some u) false true S1 pv1 kv1 m3 hM3 (TV.tok hU3) (TV.nil _) hc32 hW3.size (q.1, ⟨#[111, 116, 104, 101, 114]⟩)
          have hownu : ownB none (some u) true = false := by simp [ownB]
          rw [hownu] at hso
          unfold pt Pr.v at hso
          unfold at0 at hso
          go_wp2_with fail
          refine hso.mono ?_
          rintro e m4 ⟨bo, po, ko, rfl, hOo, hco⟩
          unfold at0
          have hBo := hco.keepNew
          have hob := hco.new rfl
          have hlo : b1 < m3.heap.size := by obtain ⟨cs, hbb⟩ := hM3.blk; exact hbb.lt
          have hM4 := hM3.below hBo
          have hT4 := hT3.keep (Keep.of_below (X := []) hBo) (by simp)
          have hU4 := hU3.keep (Keep.of_below (X := []) hBo) (by simp)
          have hbx4 := hbx3.below hBo
          have hW4 := hW3.trans (hBo.mono hW3.size)
          clear hso hM3 hT3 hU3 hbx3 hW3 hco c0 c1 hownu
          have hsz := Inn.clear w.heap.size b1 cn none none false false S1 pv1 kv1 m4 hM4 (TV.nil _) (TV.nil _) hc32 hW4.size
          unfold pt at hsz
          unfold at0 at hsz
          go_wp2_with fail
          refine hsz.mono ?_
          rintro e m5 ⟨bz, pz, kz, rfl, hZz, hcz⟩
          unfold at0
          have hBz := hcz.keepNew
          have hzb := hcz.new rfl
          have hM5 := hM4.below hBz
          have hO5 := hOo.below hBz
          have hT5 := hT4.keep (Keep.of_below (X := []) hBz) (by simp)
          have hU5 := hU4.keep (Keep.of_below (X := []) hBz) (by simp)
          have hbx5 := hbx4.below hBz
          have hW5 := hW4.trans (hBz.mono hW4.size)
          have hs4 := hBo.size
          obtain ⟨cm, hcm⟩ := hM5.blk
          obtain ⟨co, hco⟩ := hO5.blk
          obtain ⟨cz, hcz'⟩ := hZz.blk
          have q1 := eql_node_other m5 (a := bo) (b := b1) (by omega) hco hcm
          have q2 := eql_node_other m5 (a := bz) (b := b1) (by omega) hcz' hcm
          unfold at0 at q1 q2
          have r1 := Inn.owned _ _ (some u) (some u) true true _ _ _ m5 hO5 (TV.tok hU5) (TV.tok hU5)
          have r1' : ownB (some u) (some u) true = true := by simp [ownB]
          have r2 := Inn.owned _ _ none (some t) false false _ _ _ m5 hZz (TV.tok hT5) (TV.nil _)
          have r2' : ownB none (some t) false = false := by simp [ownB]
          rw [r1'] at r1
          rw [r2'] at r2
          unfold pt at r1 r2
          unfold at0 at r1 r2
          have HT2 := Lib.hid (tot_other S cn q (q.1, ⟨#[111, 116, 104, 101, 114]⟩) hc32)
          have HT3 := Lib.hid (tot_clear S cn q hc32)
          obtain ⟨n3, hn3⟩ : ∃ n3, n3 = tot (S1.put cn .no) := ⟨_, rfl⟩
          have hn03 : n0 = n3 + 1 := by rw [Hn0.out, hn3, HS1.out]; exact HT3.out.symm
          have lz := Inn.len _ _ _ _ _ _ m5 hZz
          rw [show (fm (S1.put cn .no).P 32).length + (fm (S1.put cn .no).K 32).length = n3 by rw [hn3]; rfl] at lz
          have F1 : IntKind.i64.wrap ((n0 : Int) - 1) = (n3 : Int) := by rw [IntWalk.i64_in _ (by omega)]; omega
          clear hn3 hBo hBz hob hzb hcz hsz hOo hM4 hT4 hU4 hbx4 hW4 hcm hco hcz' r1' r2' hlo hs4 hn03
          unfold at0 at lz
          go_wp2_with fail
          refine r1.mono ?_
          rintro e w' ⟨rfl, rfl⟩
          go_wp2_with fail
          refine r2.mono ?_
          rintro e w' ⟨rfl, rfl⟩
          go_wp2_with fail
          refine lz.mono ?_
          rintro e w' ⟨rfl, k5, rfl⟩
          have hM6 := hM5.drewN k5
          have hO6 := hO5.drewN k5
          have hT6 : Tok (m5.drewN k5) t p 1 false := hT5
          have hU6 : Tok (m5.drewN k5) u p 2 true := hU5
          have hbx6 : Blk (m5.drewN k5) N 27 #[.string q.1, .string q.2] := hbx5
          have hW6 : Below w.heap.size w (m5.drewN k5) := ⟨hW5.os, hW5.tape, hW5.output, hW5.size, hW5.block⟩
          clear hM5 hO5 hT5 hU5 hbx5 hW5 q1 q2 r1 r2 lz hZz
          generalize m5.drewN k5 = m6 at *
          have lm := Inn.len _ _ _ _ _ _ m6 hM6
          rw [show (fm S1.P 32).length + (fm S1.K 32).length = n0 by rw [Hn0.out]; rfl] at lm
          unfold at0 at lm
          go_wp2_with fail
          refine lm.mono ?_
          rintro e w' ⟨rfl, k6, rfl⟩
          have hM7 := hM6.drewN k6
          have hO7 := hO6.drewN k6
          have hT7 : Tok (m6.drewN k6) t p 1 false := hT6
          have hU7 : Tok (m6.drewN k6) u p 2 true := hU6
          have hbx7 : Blk (m6.drewN k6) N 27 #[.string q.1, .string q.2] := hbx6
          have hW7 : Below w.heap.size w (m6.drewN k6) := ⟨hW6.os, hW6.tape, hW6.output, hW6.size, hW6.block⟩
          clear hM6 hO6 hT6 hU6 hbx6 hW6 lm
          generalize m6.drewN k6 = m7 at *
          have lo := Inn.len _ _ _ _ _ _ m7 hO7
          rw [show (fm (S1.put cn (.pr (q.1, ⟨#[111, 116, 104, 101, 114]⟩))).P 32).length + (fm (S1.put cn (.pr (q.1, ⟨#[111, 116, 104, 101, 114]⟩))).K 32).length = n0 by rw [Hn0.out, HS1.out]; exact HT2.out] at lo
          unfold at0 at lo
          go_wp2_with fail
          refine lo.mono ?_
          rintro e w' ⟨rfl, k7, rfl⟩
          have hM8 := hM7.drewN k7
          have hT8 : Tok (m7.drewN k7) t p 1 false := hT7
          have hU8 : Tok (m7.drewN k7) u p 2 true := hU7
          have hbx8 : Blk (m7.drewN k7) N 27 #[.string q.1, .string q.2] := hbx7
          have hW8 : Below w.heap.size w (m7.drewN k7) := ⟨hW7.os, hW7.tape, hW7.output, hW7.size, hW7.block⟩
          clear hM7 hO7 hT7 hU7 hbx7 hW7 lo
          generalize m7.drewN k7 = m8 at *
          have pr := Inn.pair _ _ cn _ _ _ _ m8 hM8 hc32
          have hpq : S1.P cn = some q := by rw [HS1.out]; exact (S.P_put cn (.pr q)).1
          rw [hpq] at pr
          unfold at0 at pr
          clear hpq
          go_wp2_with fail
          refine pr.mono ?_
          rintro e m9 ⟨rfl, hB9⟩
          have hM9 := hM8.below hB9
          have hT9 := hT8.keep (Keep.of_below (X := []) hB9) (by simp)
          have hU9 := hU8.keep (Keep.of_below (X := []) hB9) (by simp)
          have hbx9 := hbx8.below hB9
          have hW9 := hW8.trans (hB9.mono hW8.size)
          clear hM8 hT8 hU8 hbx8 hW8 hB9 pr
          have hBA := (Below.refl _ m9).alloc (Nat.le_refl _) (.cells #[.string q.1, .string q.2] 27)
          have hMA := hM9.below hBA
          have hTA := hT9.keep (Keep.of_below (X := []) hBA) (by simp)
          have hUA := hU9.keep (Keep.of_below (X := []) hBA) (by simp)
          have hbxA := hbx9.below hBA
          have hWA := hW9.trans (hBA.mono hW9.size)
          have hbn := Blk.new m9 27 #[.string q.1, .string q.2]
          have g0 := hbxA.cell 0
          have g1 := hbxA.cell 1
          have g2 := hbn.cell 0
          have g3 := hbn.cell 1
          simp only [List.getElem?_toArray, List.getElem?_cons_succ, List.getElem?_cons_zero] at g0 g1 g2 g3
          have hnq : ∀ w, (binOp .neq 27 (.agg #[.string q.1, .string q.2]) (.agg #[.string q.1, .string q.2])).run Try.prog w = .ok (.bool false) w := fun w => by rw [neq33 q q w]; simp [peq]
          unfold optP Pr.v
          clear hM9 hT9 hU9 hbx9 hW9 hBA hbn hbxA
          go_wp2_with fail
          refine ⟨⟨k + 1, b1, S1, pv1, kv1, none, by go_num, by omega, by omega, rfl, .inl rfl, hMA, hTA, hUA, hWA⟩, by simp [intOf]; omega⟩
        · have B1 : ¬ ((k : Int) < (len1 : Int)) := by omega
          obtain ⟨lo1, ho1⟩ := Inn.tv (base := 0) hT1 hoo
          have r := Inn.owned _ _ ow (some t) lo1 false _ _ _ _ hN1 (TV.tok hT1) ho1
          have hown : ownB ow (some t) false = false := rfl
          rw [hown] at r
          unfold pt at r
          unfold at0 at r
          clear hN hT hU hBb hW
          go_wp2_with fail
          generalize wr.alloc (.cells #[.string q.1, .string q.2] 27) = WB at *
          refine r.mono ?_
          rintro e w' ⟨rfl, rfl⟩
          go_wp2_with fail
          go_ret
          exact ⟨rfl, hWb⟩
      · have B1 : ¬ ((k : Int) < 15) := by omega
        obtain ⟨lo1, ho1⟩ := Inn.tv (base := 0) hT1 hoo
        have r := Inn.owned _ _ ow (some t) lo1 false _ _ _ _ hN1 (TV.tok hT1) ho1
        have hown : ownB ow (some t) false = false := rfl
        rw [hown] at r
        unfold pt at r
        unfold at0 at r
        clear hN hT hU hBb hW
        go_wp2_with fail
        generalize wr.alloc (.cells #[.string q.1, .string q.2] 27) = WB at *
        refine r.mono ?_
        rintro e w' ⟨rfl, rfl⟩
        go_wp2_with fail
        go_ret
        exact ⟨rfl, hWb⟩
    · obtain ⟨lo1, ho1⟩ := Inn.tv (base := 0) hT hoo
      have r := Inn.owned _ _ ow (some t) lo1 false _ _ _ _ hN (TV.tok hT) ho1
      have hown : ownB ow (some t) false = false := rfl
      rw [hown] at r
      unfold pt at r
      unfold at0 at r
      go_wp2_with fail
      refine r.mono ?_
      rintro e w' ⟨rfl, rfl⟩
      go_wp2_with fail
      go_ret
      exact ⟨rfl, hW⟩

theorem walk (a0 : Option Addr) (len0 cap0 : Nat) (ps : List Pr) (a1 : Option Addr) (len1 cap1 : Nat) (zs : List Int) (en : Bool) (w : World) (hp : ArgP w a0 len0 cap0 ps) (hz : IsRow .u8 w a1 len1 cap1 zs) :
    Calls Try.prog 6 #[.slice a0 len0 cap0, .slice a1 len1 cap1, .bool en] w fun e w' => e = .returned (.bool true) ∧ Below w.heap.size w w' := by
  cases en with
  | true => exact walk_true a0 len0 cap0 ps a1 len1 cap1 zs w hp hz
  | false => exact walk_false a0 len0 cap0 ps a1 len1 cap1 zs w hp hz

/-! ### THE ROW's STEP -/
set_option maxRecDepth 100000 in
theorem lifted (os : Os) (started : os.Started) (H : Type) (enc : TypeId × Value → H) :
    ReturnsInHanded {} Try.checked os 6 .any (Rows.nodeOwnsSpec.pre6 enc Try.prog Try.f6 Rows.nodeOwnsRow.domain false) (Rows.nodeOwnsSpec.post enc Try.prog Try.f6 false true false false) := by
  refine returnsInHanded_of_change (C := Try.checked) own started (by kernel_rfl) Try.func6
    (ChangeSpec.witness6 (enc := enc) (C := Try.checked) false ⟨#[], #[.slice none 0 0, .slice none 0 0, .bool false], []⟩ 8 (by kernel_rfl) (by kernel_rfl) (by kernel_rfl) (by kernel_rfl)) ?_
  intro W base args ds gs before hval0 hW hcnd _
  have hval : ∀ (j : Nat) t v, Try.f6.params[j]? = some t → args[j]? = some v → Value.okWide Try.prog W .any base t v := hval0
  have hW' := hW
  obtain ⟨p, q, hA0, hV, rfl, hfz, hnd⟩ := hW
  have hA : DataW.TrodAll enc Try.prog W 0 (fun _ => true) true Try.f6.params.toList args.toList ds p := hA0
  rw [Try.params6] at hA hval
  obtain ⟨v0, vs0, d0, ds0, p0, q0, hargs, rfl, rfl, h0, r0⟩ := trodAll_cons hA
  obtain ⟨v1, vs1, d1, ds1, p1, q1, rfl, rfl, rfl, h1, r1⟩ := trodAll_cons r0
  obtain ⟨v2, vs2, d2, ds2, p2, q2, rfl, rfl, rfl, h2, r2⟩ := trodAll_cons r1
  obtain ⟨rfl, rfl, rfl⟩ := trodAll_nil r2
  obtain rfl : args = #[v0, v1, v2] := by cases args; simp_all
  obtain ⟨rfl, rfl⟩ := trodVars_none hV
  obtain ⟨a0, len0, cap0, rfl⟩ := okWide_slice Try.underlying40 (hval 0 40 v0 rfl rfl)
  have k0 := h0
  have lt0 : ∀ x ∈ p0, x.block < W.heap.size := by obtain ⟨m, hm⟩ := k0; exact DataW.trod_lt m _ _ _ hm
  obtain ⟨z0, w0⟩ := open_pairs h0
  obtain ⟨a1, len1, cap1, rfl⟩ := okWide_slice Try.underlying60 (hval 1 60 v1 rfl rfl)
  have k1 := h1
  have lt1 : ∀ x ∈ p1, x.block < W.heap.size := by obtain ⟨m, hm⟩ := k1; exact DataW.trod_lt m _ _ _ hm
  obtain ⟨z1, w1⟩ : ∃ zs, IsRow .u8 W a1 len1 cap1 zs := by
    obtain ⟨fuel, hf⟩ := h1
    rcases open_ints Try.underlying60 Try.underlying5 (by kernel_rfl) hf with ⟨hcs, _⟩ | ⟨x, l, c, zs, hcs, _, hl, hm, hz, _, hcell, hwz⟩
    · simp [Value.cells] at hcs
      obtain ⟨rfl, rfl, rfl⟩ := hcs
      exact ⟨[], .inl ⟨rfl, rfl, rfl, rfl⟩⟩
    · simp [Value.cells] at hcs
      obtain ⟨rfl, rfl, rfl⟩ := hcs
      exact ⟨zs, .inr ⟨_, rfl, hl, hm, by simpa using hz, hcell, hwz⟩⟩
  have k2 := h2
  have lt2 : ∀ x ∈ p2, x.block < W.heap.size := by obtain ⟨m, hm⟩ := k2; exact DataW.trod_lt m _ _ _ hm
  obtain ⟨a2, rfl, rfl, rfl⟩ := open_bool Try.underlying4 (hval 2 4 v2 rfl rfl) h2
  clear hA0 hval0
  refine (walk a0 len0 cap0 z0 a1 len1 cap1 z1 a2 W w0 w1).mono fun e W' ⟨he, bel⟩ => ?_
  subst he
  exact ⟨_, rfl, _, _, _, [], _, [], hW', trodAll_mk1 (shut_bool Try.underlying4 _), (trodAll_cons_mk (Below.trod laidOut (by kernel_rfl) (of_decide_eq_true (by kernel_rfl)) k0 bel lt0) (trodAll_cons_mk (Below.trod laidOut (by kernel_rfl) (of_decide_eq_true (by kernel_rfl)) k1 bel lt1) (trodAll_cons_mk (Below.trod laidOut (by kernel_rfl) (of_decide_eq_true (by kernel_rfl)) k2 bel lt2) trodAll_mk0))), rfl, bel.frame _, fun h => by cases h⟩

theorem over : Rows.nodeOwnsRow.holds Try.pinned (OpenSpec.ofChange Rows.nodeOwnsSpec) :=
  OpenClaim.holds_of_wide 6 Try.f6 rfl rfl rfl rfl rfl rfl rfl ⟨rfl, rfl, rfl, rfl, rfl⟩ rfl rfl rfl rfl rfl (by kernel_rfl) Try.func6 (by kernel_rfl)
    (of_decide_eq_true (by kernel_rfl)) (by unfold Func.isWrapper; first | (rw [if_pos (by decide +kernel)]; kernel_rfl) | (rw [if_neg (by decide +kernel)]; exact ⟨rfl, rfl⟩))
    (fun os started H enc _ => lifted os started H enc)

theorem proved : Rows.NodeOwnsSaid := over
#print axioms proved
end Go.Proofs.Ytgldgdpgbfejmaa.nodeOwns
