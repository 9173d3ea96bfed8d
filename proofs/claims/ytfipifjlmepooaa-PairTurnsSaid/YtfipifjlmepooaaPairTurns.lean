/- PairTurns: for every list of pairs and every two pairs the law returns true: pairs of unlike keys may come in any order; what is dropped and put again is there as it was. Conditions: none beyond the given statement. -/
import Derived.Test.YtfipifjlmepooaaRows
import Derived.WalkKit
import Derived.ProofKit
import Derived.OpenShut
import Derived.ShutString
import Derived.ChangeOld
import Derived.Below
import Derived.BigQuiet
import Derived.Carry
import Derived.Lib.SmallJoins
import Derived.Test.YtfipifjlmepooaaRf
namespace Go.Proofs.Ytfipifjlmepooaa.pairTurns
open Go.ChangeShapes Go.WideShapes Go.ChangeAt Go.RowKit Go.Joins Go.Lib
open Go.ChangeMaps (open_string shut_string)
set_option linter.unusedVariables false
set_option linter.unusedSimpArgs false

theorem own : ownKnob Try.prog.godebug = none := by kernel_rfl
theorem laidOut : laidOutB Try.prog = true := by kernel_rfl

theorem keep4 {w w' : World} {a b c d : Addr} {x y z u : Value} (h : w.cell? a = some x ∧ w.cell? b = some y ∧ w.cell? c = some z ∧ w.cell? d = some u) (hB : Below w.heap.size w w') : w'.cell? a = some x ∧ w'.cell? b = some y ∧ w'.cell? c = some z ∧ w'.cell? d = some u :=
  ⟨cell_on h.1 hB, cell_on h.2.1 hB, cell_on h.2.2.1 hB, cell_on h.2.2.2 hB⟩
theorem keep6 {w w' : World} {a b c d e f : Addr} {x y z u r s : Value} (h : w.cell? a = some x ∧ w.cell? b = some y ∧ w.cell? c = some z ∧ w.cell? d = some u ∧ w.cell? e = some r ∧ w.cell? f = some s) (hB : Below w.heap.size w w') : w'.cell? a = some x ∧ w'.cell? b = some y ∧ w'.cell? c = some z ∧ w'.cell? d = some u ∧ w'.cell? e = some r ∧ w'.cell? f = some s :=
  ⟨cell_on h.1 hB, cell_on h.2.1 hB, cell_on h.2.2.1 hB, cell_on h.2.2.2.1 hB, cell_on h.2.2.2.2.1 hB, cell_on h.2.2.2.2.2 hB⟩
set_option maxRecDepth 100000 in
set_option maxHeartbeats 8000000 in
theorem walk (a : Option Addr) (la ca : Nat) (ps : List Pr) (pk pv qk qv : ByteArray) (w : World) (ha : ArgP w a la ca ps) :
    Calls Try.prog 7 #[.slice a la ca, .agg #[.string pk, .string pv], .agg #[.string qk, .string qv]] w fun e w' => e = .returned (.bool true) ∧ Below w.heap.size w w' := by
  have hB0 := (Below.refl _ w).alloc (Nat.le_refl _) (.cells #[.string pk, .string pv] 33)
  have hB1 := (Below.refl _ (w.alloc (.cells #[.string pk, .string pv] 33))).alloc (Nat.le_refl _) (.cells #[.string qk, .string qv] 33)
  have hW := hB0.trans (hB1.mono hB0.size)
  have hbp := Blk.new w 33 #[.string pk, .string pv]
  have hbq := Blk.new (w.alloc (.cells #[.string pk, .string pv] 33)) 33 #[.string qk, .string qv]
  have p0 := cell_on (v := .string pk) (hbp.cell 0) hB1
  have p1 := cell_on (v := .string pv) (hbp.cell 1) hB1
  have q0 : _ = some (Value.string qk) := hbq.cell 0
  have q1 : _ = some (Value.string qv) := hbq.cell 1
  rw [show (w.alloc (.cells #[.string pk, .string pv] 33)).heap.size = w.heap.size + 1 by simp] at q0 q1
  have ha0 := ha.below hW
  go_enter Try.func7, Try.ntmps7
  go_upto_region 1 with (fail)
  clear hbp hbq hB0 hB1 ha
  generalize (w.alloc (.cells #[.string pk, .string pv] 33)).alloc (.cells #[.string qk, .string qv] 33) = w0 at *
  go_wp2_with fail
  refine (awake3 w0).mono ?_
  rintro e w1 ⟨rfl, hB1⟩
  have ha1 := ha0.below hB1
  have p0' := cell_on p0 hB1
  have p1' := cell_on p1 hB1
  have q0' := cell_on q0 hB1
  have q1' := cell_on q1 hB1
  have hW1 := hW.trans (hB1.mono hW.size)
  clear ha0 p0 p1 q0 q1 hW hB1
  go_wp2_with fail
  refine (few_any a la ca ps w1 ha1).mono ?_
  rintro e w2 ⟨g1, c1, rfl, hO1, hB2⟩
  have hl1 : (ps.take 40).length ≤ 40 := by rw [List.length_take]; omega
  generalize ps.take 40 = xs at *
  obtain ⟨A, cA, hv1, hR1, hA1, hN1⟩ := hO1.lie
  simp at hv1
  obtain ⟨rfl, rfl⟩ := hv1
  have p0 := cell_on p0' hB2
  have p1 := cell_on p1' hB2
  have q0 := cell_on q0' hB2
  have q1 := cell_on q1' hB2
  have hW2 := hW1.trans (hB2.mono hW1.size)
  clear ha1 hB2 hO1 p0' p1' q0' q1' hW1
  go_wp2_with fail
  refine (sorted_any _ _ xs w2 hR1 hA1 hl1 hN1).mono ?_
  rintro e w3 ⟨v3, R, rfl, hO3, hN, hB3⟩
  have hlR := norm_length hN
  obtain ⟨A0, c0, rfl, hR0, hc0, hn0, -⟩ := hO3.lies
  have hs : Sl w3 A0 c0 R := ⟨hR0, hc0, hn0, hN.rises⟩
  replace p0 := cell_on p0 hB3
  replace p1 := cell_on p1 hB3
  replace q0 := cell_on q0 hB3
  replace q1 := cell_on q1 hB3
  have hW := hW2.trans (hB3.mono hW2.size)
  have hr := hN.rises
  have hl : R.length ≤ 40 := by omega
  have HT := Lib.hid (put_twice (pk, pv) (pk, qv) hr rfl)
  have HR := Lib.hid hr
  have L1 := putK_length R (pk, pv)
  have L2 := putK_length (putK R (pk, pv)) (qk, qv)
  have L3 := putK_length R (qk, qv)
  have L4 := putK_length (putK R (qk, qv)) (pk, pv)
  have L5 := putK_length (putK R (pk, pv)) (pk, qv)
  have L6 := putK_length R (pk, qv)
  clear hR0 hc0 hn0 hO3 hB3 hN hR1 hA1 hN1 hl1 hlR hW2
  by_cases hpq : pk = qk
  · have hd : (pk.toList == qk.toList) = true := by simp [hpq]
    have HC : True := trivial
    clear hpq
    go_wp2_with fail
    go_quiet (fail)
    clear hd
    replace hs : Sl (w3.drewN nq) A0 c0 R := hs
    replace hW := below_drewn hW nq
    replace p0 : (w3.drewN nq).cell? _ = _ := p0
    replace p1 : (w3.drewN nq).cell? _ = _ := p1
    replace q0 : (w3.drewN nq).cell? _ = _ := q0
    replace q1 : (w3.drewN nq).cell? _ = _ := q1
    generalize w3.drewN nq = w1 at *
    clear HC
    go_wp2_with fail
    replace hs : Sl w1.drew A0 c0 R := hs
    replace hW := hW.drew
    go_region_held3 (fun w' => w'.cell? ⟨w.heap.size, 0, none⟩ = some (.string pk) ∧ w'.cell? ⟨w.heap.size, 1, none⟩ = some (.string pv) ∧ w'.cell? ⟨w.heap.size + 1, 0, none⟩ = some (.string qk) ∧ w'.cell? ⟨w.heap.size + 1, 1, none⟩ = some (.string qv)) (first | exact keep4 (by assumption) hB | exact ⟨p0, p1, q0, q1⟩) (first | (go_at_call 19; refine (same_sl h6.1 h7.1 (by omega) (by omega) HT.out).mono ?_; rintro e w1 ⟨rfl, hB⟩; replace hs := hs.below hB; replace hW := hW.trans (hB.mono hW.size); clear h6 h7) | (have _g := h6; clear _g; go_at_call 24; refine (put_sl hs pk qv (by omega)).mono ?_; rintro e w1 ⟨A7, c7, rfl, h7, hB⟩; replace hs := hs.below hB; replace hW := hW.trans (hB.mono hW.size); replace h6 := h6.below hB) | (have _g := hs; clear _g; go_at_call 24; refine (put_sl h5 pk qv (by omega)).mono ?_; rintro e w1 ⟨A6, c6, rfl, h6, hB⟩; replace hs := hs.below hB; replace hW := hW.trans (hB.mono hW.size); clear h5) | (have _g := hs; clear _g; go_at_call 24; refine (put_sl hs pk pv (by omega)).mono ?_; rintro e w1 ⟨A5, c5, rfl, h5, hB⟩; replace hs := hs.below hB; replace hW := hW.trans (hB.mono hW.size)))
    obtain ⟨p0, p1, q0, q1⟩ : w1.cell? ⟨w.heap.size, 0, none⟩ = some (.string pk) ∧ w1.cell? ⟨w.heap.size, 1, none⟩ = some (.string pv) ∧ w1.cell? ⟨w.heap.size + 1, 0, none⟩ = some (.string qk) ∧ w1.cell? ⟨w.heap.size + 1, 1, none⟩ = some (.string qv) := by assumption
    clear HT hB
    have hf := find_any A0 c0 R pk w1 hs.1 (by omega) hs.2.2.2
    have hposl := posK_le R pk
    cases hk : isK R pk with
    | true =>
      obtain ⟨hPl, hPk⟩ := isK_spec hk
      have HD := Lib.hid (put_drop pk HR.out hk)
      have L7 := drop_len R pk
      have L8 := putK_length (dropK R pk) (pat R (posK R pk))
      have hL9 : (putK (dropK R pk) ((pat R (posK R pk)).1, (pat R (posK R pk)).2)).length ≤ R.length + 1 := by
        have : ((pat R (posK R pk)).1, (pat R (posK R pk)).2) = pat R (posK R pk) := rfl
        rw [this]; omega
      rw [hk] at hf
      obtain ⟨g, off, rfl, s0, s1⟩ := hs.1.at _ hPl
      generalize posK R pk = P at *
      have B1 : (0 : Int) ≤ (P : Int) := by omega
      have B2 : (P : Int) < (R.length : Int) := by omega
      clear hk hPk
      go_wp2_with fail
      refine hf.mono ?_
      rintro e w4 ⟨rfl, hB⟩
      replace hs := hs.below hB
      replace hW := hW.trans (hB.mono hW.size)
      replace p0 := cell_on p0 hB
      replace p1 := cell_on p1 hB
      replace q0 := cell_on q0 hB
      replace q1 := cell_on q1 hB
      replace s0 := cell_on s0 hB
      replace s1 := cell_on s1 hB
      clear hB hf
      go_wp2_with fail
      replace hs : Sl w4.drew (some ⟨g, off, none⟩) c0 R := hs
      replace hW := hW.drew
      go_region_held3 (fun w' => w'.cell? ⟨w.heap.size, 0, none⟩ = some (.string pk) ∧ w'.cell? ⟨w.heap.size, 1, none⟩ = some (.string pv) ∧ w'.cell? ⟨w.heap.size + 1, 0, none⟩ = some (.string qk) ∧ w'.cell? ⟨w.heap.size + 1, 1, none⟩ = some (.string qv) ∧ w'.cell? ⟨g, off + P * 2, none⟩ = some (.string (pat R P).1) ∧ w'.cell? ⟨g, off + P * 2 + 1, none⟩ = some (.string (pat R P).2)) (first | exact keep6 (by assumption) hB | exact ⟨p0, p1, q0, q1, s0, s1⟩) (first | (go_at_call 19; refine (same_sl h9.1 hs.1 (by omega) (by omega) HD.out).mono ?_; rintro e w1 ⟨rfl, hB⟩; replace hs := hs.below hB; replace hW := hW.trans (hB.mono hW.size); clear h9) | (have _g := hs; clear _g; go_at_call 24; refine (put_sl h8 (pat R P).1 (pat R P).2 (by omega)).mono ?_; rintro e w1 ⟨A9, c9, rfl, h9, hB⟩; replace hs := hs.below hB; replace hW := hW.trans (hB.mono hW.size); clear h8) | (have _g := hs; clear _g; go_at_call 25; refine (drop_sl hs pk (by omega)).mono ?_; rintro e w1 ⟨A8, c8, rfl, h8, hB⟩; replace hs := hs.below hB; replace hW := hW.trans (hB.mono hW.size)))
      go_wp2_with fail
      go_ret
      exact ⟨rfl, hW⟩
    | false =>
      have HD := Lib.hid (drop_put (pk, pv) HR.out hk)
      have HE := Lib.hid (drop_none HR.out hk)
      have L7 := drop_len R pk
      have L8 := drop_len (putK R (pk, pv)) pk
      rw [hk] at hf
      generalize posK R pk = P at *
      clear hk
      go_wp2_with fail
      refine hf.mono ?_
      rintro e w4 ⟨rfl, hB⟩
      replace hs := hs.below hB
      replace hW := hW.trans (hB.mono hW.size)
      replace p0 := cell_on p0 hB
      replace p1 := cell_on p1 hB
      replace q0 := cell_on q0 hB
      replace q1 := cell_on q1 hB
      clear hB hf
      go_wp2_with fail
      replace hs : Sl w4.drew A0 c0 R := hs
      replace hW := hW.drew
      go_region_held3 (fun w' => w'.cell? ⟨w.heap.size, 0, none⟩ = some (.string pk) ∧ w'.cell? ⟨w.heap.size, 1, none⟩ = some (.string pv) ∧ w'.cell? ⟨w.heap.size + 1, 0, none⟩ = some (.string qk) ∧ w'.cell? ⟨w.heap.size + 1, 1, none⟩ = some (.string qv)) (first | exact keep4 (by assumption) hB | exact ⟨p0, p1, q0, q1⟩) (first | (go_at_call 19; refine (same_sl h10.1 hs.1 (by omega) (by omega) HE.out).mono ?_; rintro e w1 ⟨rfl, hB⟩; replace hs := hs.below hB; replace hW := hW.trans (hB.mono hW.size); clear h10) | (have _g := g9; clear _g; go_at_call 25; refine (drop_sl hs pk (by omega)).mono ?_; rintro e w1 ⟨A10, c10, rfl, h10, hB⟩; replace hs := hs.below hB; replace hW := hW.trans (hB.mono hW.size)) | (go_at_call 19; refine (same_sl h9.1 hs.1 (by omega) (by omega) HD.out).mono ?_; rintro e w1 ⟨rfl, hB⟩; replace hs := hs.below hB; replace hW := hW.trans (hB.mono hW.size); clear h9; have g9 := True.intro) | (have _g := hs; clear _g; go_at_call 25; refine (drop_sl h8 pk (by omega)).mono ?_; rintro e w1 ⟨A9, c9, rfl, h9, hB⟩; replace hs := hs.below hB; replace hW := hW.trans (hB.mono hW.size); clear h8) | (have _g := hs; clear _g; go_at_call 24; refine (put_sl hs pk pv (by omega)).mono ?_; rintro e w1 ⟨A8, c8, rfl, h8, hB⟩; replace hs := hs.below hB; replace hW := hW.trans (hB.mono hW.size)))
      go_wp2_with fail
      go_ret
      exact ⟨rfl, hW⟩

  · have hd : (pk.toList == qk.toList) = false := by
      rw [beq_eq_false_iff_ne]
      exact fun e => hpq (bytes_ext (by rw [ByteArray.toList_eq, ByteArray.toList_eq] at e; exact e))
    have HC := Lib.hid (put_comm (pk, pv) (qk, qv) HR.out hpq)
    go_wp2_with fail
    replace hs : Sl w3.drew A0 c0 R := hs
    replace hW := hW.drew
    go_region_held3 (fun w' => w'.cell? ⟨w.heap.size, 0, none⟩ = some (.string pk) ∧ w'.cell? ⟨w.heap.size, 1, none⟩ = some (.string pv) ∧ w'.cell? ⟨w.heap.size + 1, 0, none⟩ = some (.string qk) ∧ w'.cell? ⟨w.heap.size + 1, 1, none⟩ = some (.string qv)) (first | exact keep4 (by assumption) hB | exact ⟨p0, p1, q0, q1⟩) (first | (go_at_call 19; refine (same_sl h2.1 h4.1 (by omega) (by omega) HC.out).mono ?_; rintro e w1 ⟨rfl, hB⟩; replace hs := hs.below hB; replace hW := hW.trans (hB.mono hW.size); clear h2 h4) | (have _g := hs; clear _g; go_at_call 24; refine (put_sl h3 pk pv (by omega)).mono ?_; rintro e w1 ⟨A4, c4, rfl, h4, hB⟩; replace hs := hs.below hB; replace hW := hW.trans (hB.mono hW.size); replace h2 := h2.below hB; clear h3) | (have _g := h2; clear _g; go_at_call 24; refine (put_sl hs qk qv (by omega)).mono ?_; rintro e w1 ⟨A3, c3, rfl, h3, hB⟩; replace hs := hs.below hB; replace hW := hW.trans (hB.mono hW.size); replace h2 := h2.below hB) | (have _g := hs; clear _g; go_at_call 24; refine (put_sl h1 qk qv (by omega)).mono ?_; rintro e w1 ⟨A2, c2, rfl, h2, hB⟩; replace hs := hs.below hB; replace hW := hW.trans (hB.mono hW.size); clear h1) | (have _g := hs; clear _g; go_at_call 24; refine (put_sl hs pk pv (by omega)).mono ?_; rintro e w1 ⟨A1, c1, rfl, h1, hB⟩; replace hs := hs.below hB; replace hW := hW.trans (hB.mono hW.size)))
    obtain ⟨p0, p1, q0, q1⟩ : w1.cell? ⟨w.heap.size, 0, none⟩ = some (.string pk) ∧ w1.cell? ⟨w.heap.size, 1, none⟩ = some (.string pv) ∧ w1.cell? ⟨w.heap.size + 1, 0, none⟩ = some (.string qk) ∧ w1.cell? ⟨w.heap.size + 1, 1, none⟩ = some (.string qv) := by assumption
    clear hd hpq hB
    clear HC
    go_wp2_with fail
    replace hs : Sl w1.drew A0 c0 R := hs
    replace hW := hW.drew
    go_region_held3 (fun w' => w'.cell? ⟨w.heap.size, 0, none⟩ = some (.string pk) ∧ w'.cell? ⟨w.heap.size, 1, none⟩ = some (.string pv) ∧ w'.cell? ⟨w.heap.size + 1, 0, none⟩ = some (.string qk) ∧ w'.cell? ⟨w.heap.size + 1, 1, none⟩ = some (.string qv)) (first | exact keep4 (by assumption) hB | exact ⟨p0, p1, q0, q1⟩) (first | (go_at_call 19; refine (same_sl h6.1 h7.1 (by omega) (by omega) HT.out).mono ?_; rintro e w1 ⟨rfl, hB⟩; replace hs := hs.below hB; replace hW := hW.trans (hB.mono hW.size); clear h6 h7) | (have _g := h6; clear _g; go_at_call 24; refine (put_sl hs pk qv (by omega)).mono ?_; rintro e w1 ⟨A7, c7, rfl, h7, hB⟩; replace hs := hs.below hB; replace hW := hW.trans (hB.mono hW.size); replace h6 := h6.below hB) | (have _g := hs; clear _g; go_at_call 24; refine (put_sl h5 pk qv (by omega)).mono ?_; rintro e w1 ⟨A6, c6, rfl, h6, hB⟩; replace hs := hs.below hB; replace hW := hW.trans (hB.mono hW.size); clear h5) | (have _g := hs; clear _g; go_at_call 24; refine (put_sl hs pk pv (by omega)).mono ?_; rintro e w1 ⟨A5, c5, rfl, h5, hB⟩; replace hs := hs.below hB; replace hW := hW.trans (hB.mono hW.size)))
    obtain ⟨p0, p1, q0, q1⟩ : w1.cell? ⟨w.heap.size, 0, none⟩ = some (.string pk) ∧ w1.cell? ⟨w.heap.size, 1, none⟩ = some (.string pv) ∧ w1.cell? ⟨w.heap.size + 1, 0, none⟩ = some (.string qk) ∧ w1.cell? ⟨w.heap.size + 1, 1, none⟩ = some (.string qv) := by assumption
    clear HT hB
    have hf := find_any A0 c0 R pk w1 hs.1 (by omega) hs.2.2.2
    have hposl := posK_le R pk
    cases hk : isK R pk with
    | true =>
      obtain ⟨hPl, hPk⟩ := isK_spec hk
      have HD := Lib.hid (put_drop pk HR.out hk)
      have L7 := drop_len R pk
      have L8 := putK_length (dropK R pk) (pat R (posK R pk))
      have hL9 : (putK (dropK R pk) ((pat R (posK R pk)).1, (pat R (posK R pk)).2)).length ≤ R.length + 1 := by
        have : ((pat R (posK R pk)).1, (pat R (posK R pk)).2) = pat R (posK R pk) := rfl
        rw [this]; omega
      rw [hk] at hf
      obtain ⟨g, off, rfl, s0, s1⟩ := hs.1.at _ hPl
      generalize posK R pk = P at *
      have B1 : (0 : Int) ≤ (P : Int) := by omega
      have B2 : (P : Int) < (R.length : Int) := by omega
      clear hk hPk
      go_wp2_with fail
      refine hf.mono ?_
      rintro e w4 ⟨rfl, hB⟩
      replace hs := hs.below hB
      replace hW := hW.trans (hB.mono hW.size)
      replace p0 := cell_on p0 hB
      replace p1 := cell_on p1 hB
      replace q0 := cell_on q0 hB
      replace q1 := cell_on q1 hB
      replace s0 := cell_on s0 hB
      replace s1 := cell_on s1 hB
      clear hB hf
      go_wp2_with fail
      replace hs : Sl w4.drew (some ⟨g, off, none⟩) c0 R := hs
      replace hW := hW.drew
      go_region_held3 (fun w' => w'.cell? ⟨w.heap.size, 0, none⟩ = some (.string pk) ∧ w'.cell? ⟨w.heap.size, 1, none⟩ = some (.string pv) ∧ w'.cell? ⟨w.heap.size + 1, 0, none⟩ = some (.string qk) ∧ w'.cell? ⟨w.heap.size + 1, 1, none⟩ = some (.string qv) ∧ w'.cell? ⟨g, off + P * 2, none⟩ = some (.string (pat R P).1) ∧ w'.cell? ⟨g, off + P * 2 + 1, none⟩ = some (.string (pat R P).2)) (first | exact keep6 (by assumption) hB | exact ⟨p0, p1, q0, q1, s0, s1⟩) (first | (go_at_call 19; refine (same_sl h9.1 hs.1 (by omega) (by omega) HD.out).mono ?_; rintro e w1 ⟨rfl, hB⟩; replace hs := hs.below hB; replace hW := hW.trans (hB.mono hW.size); clear h9) | (have _g := hs; clear _g; go_at_call 24; refine (put_sl h8 (pat R P).1 (pat R P).2 (by omega)).mono ?_; rintro e w1 ⟨A9, c9, rfl, h9, hB⟩; replace hs := hs.below hB; replace hW := hW.trans (hB.mono hW.size); clear h8) | (have _g := hs; clear _g; go_at_call 25; refine (drop_sl hs pk (by omega)).mono ?_; rintro e w1 ⟨A8, c8, rfl, h8, hB⟩; replace hs := hs.below hB; replace hW := hW.trans (hB.mono hW.size)))
      go_wp2_with fail
      go_ret
      exact ⟨rfl, hW⟩
    | false =>
      have HD := Lib.hid (drop_put (pk, pv) HR.out hk)
      have HE := Lib.hid (drop_none HR.out hk)
      have L7 := drop_len R pk
      have L8 := drop_len (putK R (pk, pv)) pk
      rw [hk] at hf
      generalize posK R pk = P at *
      clear hk
      go_wp2_with fail
      refine hf.mono ?_
      rintro e w4 ⟨rfl, hB⟩
      replace hs := hs.below hB
      replace hW := hW.trans (hB.mono hW.size)
      replace p0 := cell_on p0 hB
      replace p1 := cell_on p1 hB
      replace q0 := cell_on q0 hB
      replace q1 := cell_on q1 hB
      clear hB hf
      go_wp2_with fail
      replace hs : Sl w4.drew A0 c0 R := hs
      replace hW := hW.drew
      go_region_held3 (fun w' => w'.cell? ⟨w.heap.size, 0, none⟩ = some (.string pk) ∧ w'.cell? ⟨w.heap.size, 1, none⟩ = some (.string pv) ∧ w'.cell? ⟨w.heap.size + 1, 0, none⟩ = some (.string qk) ∧ w'.cell? ⟨w.heap.size + 1, 1, none⟩ = some (.string qv)) (first | exact keep4 (by assumption) hB | exact ⟨p0, p1, q0, q1⟩) (first | (go_at_call 19; refine (same_sl h10.1 hs.1 (by omega) (by omega) HE.out).mono ?_; rintro e w1 ⟨rfl, hB⟩; replace hs := hs.below hB; replace hW := hW.trans (hB.mono hW.size); clear h10) | (have _g := g9; clear _g; go_at_call 25; refine (drop_sl hs pk (by omega)).mono ?_; rintro e w1 ⟨A10, c10, rfl, h10, hB⟩; replace hs := hs.below hB; replace hW := hW.trans (hB.mono hW.size)) | (go_at_call 19; refine (same_sl h9.1 hs.1 (by omega) (by omega) HD.out).mono ?_; rintro e w1 ⟨rfl, hB⟩; replace hs := hs.below hB; replace hW := hW.trans (hB.mono hW.size); clear h9; have g9 := True.intro) | (have _g := hs; clear _g; go_at_call 25; refine (drop_sl h8 pk (by omega)).mono ?_; rintro e w1 ⟨A9, c9, rfl, h9, hB⟩; replace hs := hs.below hB; replace hW := hW.trans (hB.mono hW.size); clear h8) | (have _g := hs; clear _g; go_at_call 24; refine (put_sl hs pk pv (by omega)).mono ?_; rintro e w1 ⟨A8, c8, rfl, h8, hB⟩; replace hs := hs.below hB; replace hW := hW.trans (hB.mono hW.size)))
      go_wp2_with fail
      go_ret
      exact ⟨rfl, hW⟩


/-! ### THE ROW's STEP -/
set_option maxRecDepth 100000 in
theorem lifted (os : Os) (started : os.Started) (H : Type) (enc : TypeId × Value → H) :
    ReturnsInHanded {} Try.checked os 7 .any (Rows.pairTurnsSpec.pre6 enc Try.prog Try.f7 Rows.pairTurnsRow.domain false) (Rows.pairTurnsSpec.post enc Try.prog Try.f7 false true false false) := by
  refine returnsInHanded_of_change (C := Try.checked) own started (by kernel_rfl) Try.func7
    (ChangeSpec.witness6 (enc := enc) (C := Try.checked) false ⟨#[], #[.slice none 0 0, .agg #[.string ByteArray.empty, .string ByteArray.empty], .agg #[.string ByteArray.empty, .string ByteArray.empty]], []⟩ 8 (by kernel_rfl) (by kernel_rfl) (by kernel_rfl) (by kernel_rfl)) ?_
  intro W base args ds gs before hval0 hW hcnd _
  have hval : ∀ (j : Nat) t v, Try.f7.params[j]? = some t → args[j]? = some v → Value.okWide Try.prog W .any base t v := hval0
  have hW' := hW
  obtain ⟨p, q, hA0, hV, rfl, hfz, hnd⟩ := hW
  have hA : DataW.TrodAll enc Try.prog W 0 (fun _ => true) true Try.f7.params.toList args.toList ds p := hA0
  rw [Try.params7] at hA hval
  obtain ⟨v0, vs0, d0, ds0, p0, q0, hargs, rfl, rfl, h0, r0⟩ := trodAll_cons hA
  obtain ⟨v1, vs1, d1, ds1, p1, q1, rfl, rfl, rfl, h1, r1⟩ := trodAll_cons r0
  obtain ⟨v2, vs2, d2, ds2, p2, q2, rfl, rfl, rfl, h2, r2⟩ := trodAll_cons r1
  obtain ⟨rfl, rfl, rfl⟩ := trodAll_nil r2
  obtain rfl : args = #[v0, v1, v2] := by cases args; simp_all
  obtain ⟨rfl, rfl⟩ := trodVars_none hV
  obtain ⟨a0, len0, cap0, rfl⟩ := okWide_slice Try.underlying22 (hval 0 22 v0 rfl rfl)
  have k0 := h0
  have lt0 : ∀ x ∈ p0, x.block < W.heap.size := by obtain ⟨m, hm⟩ := k0; exact DataW.trod_lt m _ _ _ hm
  obtain ⟨z0, w0, s0⟩ := open_pairs_sized h0
  have k1 := h1
  have lt1 : ∀ x ∈ p1, x.block < W.heap.size := by obtain ⟨m, hm⟩ := k1; exact DataW.trod_lt m _ _ _ hm
  obtain ⟨x1, y1, rfl, s1⟩ := open_pair (hval 1 33 v1 rfl rfl) h1
  have k2 := h2
  have lt2 : ∀ x ∈ p2, x.block < W.heap.size := by obtain ⟨m, hm⟩ := k2; exact DataW.trod_lt m _ _ _ hm
  obtain ⟨x2, y2, rfl, s2⟩ := open_pair (hval 2 33 v2 rfl rfl) h2
  clear hA0 hval0
  refine (walk a0 len0 cap0 z0 x1 y1 x2 y2 W w0).mono fun e W' ⟨he, bel⟩ => ?_
  subst he
  exact ⟨_, rfl, _, _, _, [], _, [], hW', trodAll_mk1 (shut_bool Try.underlying4 _), (trodAll_cons_mk (Below.trod laidOut (by kernel_rfl) (of_decide_eq_true (by kernel_rfl)) k0 bel lt0) (trodAll_cons_mk (Below.trod laidOut (by kernel_rfl) (of_decide_eq_true (by kernel_rfl)) k1 bel lt1) (trodAll_cons_mk (Below.trod laidOut (by kernel_rfl) (of_decide_eq_true (by kernel_rfl)) k2 bel lt2) trodAll_mk0))), rfl, bel.frame _, fun h => by cases h⟩

theorem over : Rows.pairTurnsRow.holds Try.pinned (OpenSpec.ofChange Rows.pairTurnsSpec) :=
  OpenClaim.holds_of_wide 7 Try.f7 rfl rfl rfl rfl rfl rfl rfl ⟨rfl, rfl, rfl, rfl, rfl⟩ rfl rfl rfl rfl rfl (by kernel_rfl) Try.func7 (by kernel_rfl)
    (of_decide_eq_true (by kernel_rfl)) (by unfold Func.isWrapper; first | (rw [if_pos (by decide +kernel)]; kernel_rfl) | (rw [if_neg (by decide +kernel)]; exact ⟨rfl, rfl⟩))
    (fun os started H enc _ => lifted os started H enc)

theorem proved : Rows.PairTurnsSaid := over
#print axioms proved
end Go.Proofs.Ytfipifjlmepooaa.pairTurns
