/- PairChanges: for every list of pairs and every pair the law returns true: where a key is, or would be, in the sorted list, and the list with a pair and without one, are those of the document, and rise; the list itself stays, and its spare room too. Conditions: none beyond the given statement. -/
import Derived.Test.YtfipifjlmepooaaRows
import Derived.WalkKit
import Derived.ProofKit
import Derived.OpenShut
import Derived.ShutString
import Derived.ChangeOld
import Derived.Below
import Derived.BigQuiet
import Derived.Carry
import Derived.Lib.SmallJoins
import Derived.Test.YtfipifjlmepooaaRg
namespace Go.Proofs.Ytfipifjlmepooaa.pairChanges
open Go.ChangeShapes Go.WideShapes Go.ChangeAt Go.RowKit Go.Joins Go.Lib
open Go.ChangeMaps (open_string shut_string)
set_option linter.unusedVariables false
set_option linter.unusedSimpArgs false

theorem own : ownKnob Try.prog.godebug = none := by kernel_rfl
theorem laidOut : laidOutB Try.prog = true := by kernel_rfl

theorem keep2 {w w' : World} {a b : Addr} {x y : Value} (h : w.cell? a = some x ∧ w.cell? b = some y) (hB : Below w.heap.size w w') : w'.cell? a = some x ∧ w'.cell? b = some y :=
  ⟨cell_on h.1 hB, cell_on h.2 hB⟩
theorem keep4 {w w' : World} {a b c d : Addr} {x y z u : Value} (h : w.cell? a = some x ∧ w.cell? b = some y ∧ w.cell? c = some z ∧ w.cell? d = some u) (hB : Below w.heap.size w w') : w'.cell? a = some x ∧ w'.cell? b = some y ∧ w'.cell? c = some z ∧ w'.cell? d = some u :=
  ⟨cell_on h.1 hB, cell_on h.2.1 hB, cell_on h.2.2.1 hB, cell_on h.2.2.2 hB⟩
set_option maxRecDepth 100000 in
set_option maxHeartbeats 8000000 in
theorem walk (a : Option Addr) (la ca : Nat) (ps : List Pr) (pk pv : ByteArray) (w : World) (ha : ArgP w a la ca ps) (hz : Sized ps) (hk : pk.size ≤ maxLen) :
    Calls Try.prog 4 #[.slice a la ca, .agg #[.string pk, .string pv]] w fun e w' => e = .returned (.bool true) ∧ Below w.heap.size w w' := by
  obtain ⟨i0, hi, hz0, hz1, hz2⟩ := info_parts info33
  have HK := Lib.hid hk
  have hZ := Lib.hid (sized_take hz 40)
  clear hk hz
  have hW := (Below.refl _ w).alloc (Nat.le_refl _) (.cells #[.string pk, .string pv] 33)
  have hbp := Blk.new w 33 #[.string pk, .string pv]
  have p0 : _ = some (Value.string pk) := hbp.cell 0
  have p1 : _ = some (Value.string pv) := hbp.cell 1
  have ha0 := ha.below hW
  go_enter Try.func4, Try.ntmps4
  go_upto_region 1 with (fail)
  clear hbp ha
  generalize (w.alloc (.cells #[.string pk, .string pv] 33)) = w0 at *
  go_wp2_with fail
  refine (awake3 w0).mono ?_
  rintro e w1 ⟨rfl, hB1⟩
  have ha1 := ha0.below hB1
  replace p0 := cell_on p0 hB1
  replace p1 := cell_on p1 hB1
  replace hW := hW.trans (hB1.mono hW.size)
  clear ha0 hB1
  go_wp2_with fail
  refine (few_any a la ca ps w1 ha1).mono ?_
  rintro e w2 ⟨g1, c1, rfl, hO1, hB2⟩
  have hl1 : (ps.take 40).length ≤ 40 := by rw [List.length_take]; omega
  generalize ps.take 40 = xs at *
  obtain ⟨A, cA, hv1, hR1, hA1, hN1⟩ := hO1.lie
  simp at hv1
  obtain ⟨rfl, rfl⟩ := hv1
  replace p0 := cell_on p0 hB2
  replace p1 := cell_on p1 hB2
  replace hW := hW.trans (hB2.mono hW.size)
  clear ha1 hB2 hO1
  go_wp2_with fail
  refine (sorted_any _ _ xs w2 hR1 hA1 hl1 hN1).mono ?_
  rintro e w3 ⟨v3, R, rfl, hO3, hN, hB3⟩
  have hlR := norm_length hN
  obtain ⟨A0, c0, rfl, hR0, hc0, hn0, harg⟩ := hO3.lies
  have hs : Sl w3 A0 c0 R := ⟨hR0, hc0, hn0, hN.rises⟩
  replace p0 := cell_on p0 hB3
  replace p1 := cell_on p1 hB3
  replace hW := hW.trans (hB3.mono hW.size)
  have HR := Lib.hid hN.rises
  have HZ := Lib.hid (norm_sized hN hZ.out)
  have hl : R.length ≤ 40 := by omega
  have ht : R.take 40 = R := List.take_of_length_le hl
  have HT := Lib.hid ht
  clear hR0 hc0 hn0 hO3 hB3 hN hR1 hA1 hN1 hl1 hlR ht
  go_wp2_with fail
  refine (few_any _ _ _ R w3 harg).mono ?_
  rintro e w4 ⟨g2, c2, rfl, hO2, hB4⟩
  rw [HT.out] at hO2 ⊢
  have hrow : w4.ownsRow w3.heap.size 33 2 (.slice (some ⟨g2, 0, none⟩) R.length c2) R.length (flat R) := hO2
  have hsz := hB4.size
  clear harg hO2
  go_wp2_with (at_builtin; refine wpList_append_own _ rfl _ _ 22 rfl w3.heap.size 33 i0 _ 2 32 Try.underlying22 hi hz0 hz1 hz2 rfl (by decide) _ _ _ rfl (hrow.alloc _) ⟨w4.heap.size, 0, none⟩ 1 1 [.string ⟨#[120]⟩, .string ⟨#[121]⟩] rfl rfl (cell_two_new _ _ _ _) (flat_cell (sX, sY)) (by unfold maxLen; omega) (by omega) (by simp; omega) ?_; intro v' w5 hown' hgrow hnil)
  have hB5 : Below w3.heap.size w3 w5 := (hB4.alloc hB4.size _).grown hgrow (by simp; omega) (own_ge hrow)
  obtain ⟨g, c, rfl, hq⟩ := (Own.snoc (p := (sX, sY)) hown').room HR.out
  replace hs := hs.below hB5
  replace p0 := cell_on p0 hB5
  replace p1 := cell_on p1 hB5
  replace hW := hW.trans (hB5.mono hW.size)
  clear hrow hown' hgrow hnil hB4 hB5 hsz hi hz0 hz1 hz2
  go_wp2_with fail
  refine (own_rd hs.1 (by omega)).mono ?_
  rintro e w6 ⟨A5, c5, rfl, hx, hB⟩
  replace hs := hs.below hB
  replace hq := hq.below hB
  replace p0 := cell_on p0 hB
  replace p1 := cell_on p1 hB
  replace hW := hW.trans (hB.mono hW.size)
  clear hB
  have B1 : (R.length : Int) ≤ (c : Int) := by have := hq.2.2.2; omega
  have B2 : R.length ≤ c := by omega
  have L1 := putK_length R (pk, pv)
  have L2 := drop_len R pk
  go_wp2_with fail
  replace hs : Sl w6.drew A0 c0 R := hs
  replace hx : Rd w6.drew A5 R := hx
  replace hq : Room w6.drew g c R := hq
  replace hW := hW.drew
  go_region_held3 (fun w' => w'.cell? ⟨w.heap.size, 0, none⟩ = some (.string pk) ∧ w'.cell? ⟨w.heap.size, 1, none⟩ = some (.string pv)) (first | exact keep2 (by assumption) hB | exact ⟨p0, p1⟩) (first | (have _g := hs; clear _g; go_at_call 22; refine (find_any (some ⟨g, 0, none⟩) c R pk _ hq.1.1 (by omega) HR.out).mono ?_; rintro e w1 ⟨rfl, hB⟩; replace hs := hs.below hB; replace hx := hx.below hB; replace hq := hq.below hB; replace hW := hW.trans (hB.mono hW.size)))
  obtain ⟨p0, p1⟩ : w1.cell? ⟨w.heap.size, 0, none⟩ = some (.string pk) ∧ w1.cell? ⟨w.heap.size, 1, none⟩ = some (.string pv) := by assumption

  clear hB
  have hff := refFind_rd (c := c5) (k := pk) hx (by omega) HZ.out HK.out
  generalize posK R pk = P at *
  generalize isK R pk = K at *
  go_wp2_with fail
  refine hff.mono ?_
  rintro e w1 ⟨rfl, hB⟩
  replace hs := hs.below hB
  replace hx := hx.below hB
  replace hq := hq.below hB
  replace p0 := cell_on p0 hB
  replace p1 := cell_on p1 hB
  replace hW := hW.trans (hB.mono hW.size)
  clear hB hff
  go_wp2_with fail
  replace hs : Sl w1.drew A0 c0 R := hs
  replace hx : Rd w1.drew A5 R := hx
  replace hq : Room w1.drew g c R := hq
  replace hW := hW.drew
  go_region_held3 (fun w' => w'.cell? ⟨w.heap.size, 0, none⟩ = some (.string pk) ∧ w'.cell? ⟨w.heap.size, 1, none⟩ = some (.string pv)) (first | exact keep2 (by assumption) hB | exact ⟨p0, p1⟩) (first | (have _g := h1; clear _g; go_at_call 25; refine (drop_sl hq.1 pk (by omega)).mono ?_; rintro e w1 ⟨A2, c2, rfl, h2, hB⟩; replace hs := hs.below hB; replace hx := hx.below hB; replace hq := hq.below hB; replace hW := hW.trans (hB.mono hW.size);  replace h1 := h1.below hB) | (have _g := hs; clear _g; go_at_call 24; refine (put_sl hq.1 pk pv (by omega)).mono ?_; rintro e w1 ⟨A1, c1, rfl, h1, hB⟩; replace hs := hs.below hB; replace hx := hx.below hB; replace hq := hq.below hB; replace hW := hW.trans (hB.mono hW.size)))
  obtain ⟨p0, p1⟩ : w1.cell? ⟨w.heap.size, 0, none⟩ = some (.string pk) ∧ w1.cell? ⟨w.heap.size, 1, none⟩ = some (.string pv) := by assumption

  clear hB
  have hee : (K == K) = true := by simp
  have heql := eql33
  go_wp2_with fail
  replace hs : Sl w1.drew A0 c0 R := hs
  replace hx : Rd w1.drew A5 R := hx
  replace hq : Room w1.drew g c R := hq
  replace hW := hW.drew
  replace h1 : Sl w1.drew A1 c1 (putK R (pk, pv)) := h1
  replace h2 : Sl w1.drew A2 c2 (dropK R pk) := h2
  have B3 : (R.length : Int) < (R.length + 1 : Int) := by omega
  have B4 : (0 : Int) ≤ (R.length : Int) := by omega
  go_region_held3 (fun w' => w'.cell? ⟨w.heap.size, 0, none⟩ = some (.string pk) ∧ w'.cell? ⟨w.heap.size, 1, none⟩ = some (.string pv) ∧ w'.cell? ⟨g, R.length * 2, none⟩ = some (.string ⟨#[120]⟩) ∧ w'.cell? ⟨g, R.length * 2 + 1, none⟩ = some (.string ⟨#[121]⟩)) (first | exact keep4 (by assumption) hB | exact ⟨p0, p1, hq.2.1, hq.2.2.1⟩) (first | (have _g := t4; clear _g; go_at_call 19; refine (same_sl hq.1.1 hs.1 (by omega) (by omega) rfl).mono ?_; rintro e w1 ⟨rfl, hB⟩; replace hs := hs.below hB; replace hx := hx.below hB; replace hq := hq.below hB; replace hW := hW.trans (hB.mono hW.size)) | (have _g := t3; clear _g; go_at_call 20; refine (rises_sl h2 (by omega)).mono ?_; rintro e w1 ⟨rfl, hB⟩; replace hs := hs.below hB; replace hx := hx.below hB; replace hq := hq.below hB; replace hW := hW.trans (hB.mono hW.size);  clear h2;  have t4 := True.intro) | (have _g := t2; clear _g; go_at_call 20; refine (rises_sl h1 (by omega)).mono ?_; rintro e w1 ⟨rfl, hB⟩; replace hs := hs.below hB; replace hx := hx.below hB; replace hq := hq.below hB; replace hW := hW.trans (hB.mono hW.size);  replace h2 := h2.below hB;  clear h1;  have t3 := True.intro) | (have _g := e4; clear _g; go_at_call 16; refine (refSame_rd e3 e4 (by omega)).mono ?_; rintro e w1 ⟨rfl, hB⟩; replace hs := hs.below hB; replace hx := hx.below hB; replace hq := hq.below hB; replace hW := hW.trans (hB.mono hW.size);  replace h1 := h1.below hB;  replace h2 := h2.below hB;  clear e3 e4;  have t2 := True.intro) | (have _g := e3; clear _g; go_at_call 27; refine (refDrop_rd hx pk (by omega)).mono ?_; rintro e w1 ⟨A7, c7, rfl, e4, hB⟩; replace hs := hs.below hB; replace hx := hx.below hB; replace hq := hq.below hB; replace hW := hW.trans (hB.mono hW.size);  replace h1 := h1.below hB;  replace h2 := h2.below hB;  replace e3 := e3.below hB) | (have _g := t1; clear _g; go_at_call 17; refine (own_rd h2.1 (by omega)).mono ?_; rintro e w1 ⟨A6, c6, rfl, e3, hB⟩; replace hs := hs.below hB; replace hx := hx.below hB; replace hq := hq.below hB; replace hW := hW.trans (hB.mono hW.size);  replace h1 := h1.below hB;  replace h2 := h2.below hB) | (have _g := e2; clear _g; go_at_call 16; refine (refSame_rd e1 e2 (by omega)).mono ?_; rintro e w1 ⟨rfl, hB⟩; replace hs := hs.below hB; replace hx := hx.below hB; replace hq := hq.below hB; replace hW := hW.trans (hB.mono hW.size);  replace h1 := h1.below hB;  replace h2 := h2.below hB;  clear e1 e2;  have t1 := True.intro) | (have _g := e1; clear _g; go_at_call 26; refine (refPut_rd hx pk pv (by omega) HZ.out HK.out).mono ?_; rintro e w1 ⟨A4, c4, rfl, e2, hB⟩; replace hs := hs.below hB; replace hx := hx.below hB; replace hq := hq.below hB; replace hW := hW.trans (hB.mono hW.size);  replace h1 := h1.below hB;  replace h2 := h2.below hB;  replace e1 := e1.below hB) | (have _g := hs; clear _g; go_at_call 17; refine (own_rd h1.1 (by omega)).mono ?_; rintro e w1 ⟨A3, c3, rfl, e1, hB⟩; replace hs := hs.below hB; replace hx := hx.below hB; replace hq := hq.below hB; replace hW := hW.trans (hB.mono hW.size);  replace h1 := h1.below hB;  replace h2 := h2.below hB))

  go_wp2_with fail
  go_ret
  exact ⟨rfl, hW⟩

/-! ### THE ROW's STEP -/
set_option maxRecDepth 100000 in
theorem lifted (os : Os) (started : os.Started) (H : Type) (enc : TypeId × Value → H) :
    ReturnsInHanded {} Try.checked os 4 .any (Rows.pairChangesSpec.pre6 enc Try.prog Try.f4 Rows.pairChangesRow.domain false) (Rows.pairChangesSpec.post enc Try.prog Try.f4 false true false false) := by
  refine returnsInHanded_of_change (C := Try.checked) own started (by kernel_rfl) Try.func4
    (ChangeSpec.witness6 (enc := enc) (C := Try.checked) false ⟨#[], #[.slice none 0 0, .agg #[.string ByteArray.empty, .string ByteArray.empty]], []⟩ 8 (by kernel_rfl) (by kernel_rfl) (by kernel_rfl) (by kernel_rfl)) ?_
  intro W base args ds gs before hval0 hW hcnd _
  have hval : ∀ (j : Nat) t v, Try.f4.params[j]? = some t → args[j]? = some v → Value.okWide Try.prog W .any base t v := hval0
  have hW' := hW
  obtain ⟨p, q, hA0, hV, rfl, hfz, hnd⟩ := hW
  have hA : DataW.TrodAll enc Try.prog W 0 (fun _ => true) true Try.f4.params.toList args.toList ds p := hA0
  rw [Try.params4] at hA hval
  obtain ⟨v0, vs0, d0, ds0, p0, q0, hargs, rfl, rfl, h0, r0⟩ := trodAll_cons hA
  obtain ⟨v1, vs1, d1, ds1, p1, q1, rfl, rfl, rfl, h1, r1⟩ := trodAll_cons r0
  obtain ⟨rfl, rfl, rfl⟩ := trodAll_nil r1
  obtain rfl : args = #[v0, v1] := by cases args; simp_all
  obtain ⟨rfl, rfl⟩ := trodVars_none hV
  obtain ⟨a0, len0, cap0, rfl⟩ := okWide_slice Try.underlying22 (hval 0 22 v0 rfl rfl)
  have k0 := h0
  have lt0 : ∀ x ∈ p0, x.block < W.heap.size := by obtain ⟨m, hm⟩ := k0; exact DataW.trod_lt m _ _ _ hm
  obtain ⟨z0, w0, s0⟩ := open_pairs_sized h0
  have k1 := h1
  have lt1 : ∀ x ∈ p1, x.block < W.heap.size := by obtain ⟨m, hm⟩ := k1; exact DataW.trod_lt m _ _ _ hm
  obtain ⟨x1, y1, rfl, s1⟩ := open_pair (hval 1 33 v1 rfl rfl) h1
  clear hA0 hval0
  refine (walk a0 len0 cap0 z0 x1 y1 W w0 s0 s1).mono fun e W' ⟨he, bel⟩ => ?_
  subst he
  exact ⟨_, rfl, _, _, _, [], _, [], hW', trodAll_mk1 (shut_bool Try.underlying4 _), (trodAll_cons_mk (Below.trod laidOut (by kernel_rfl) (of_decide_eq_true (by kernel_rfl)) k0 bel lt0) (trodAll_cons_mk (Below.trod laidOut (by kernel_rfl) (of_decide_eq_true (by kernel_rfl)) k1 bel lt1) trodAll_mk0)), rfl, bel.frame _, fun h => by cases h⟩

theorem over : Rows.pairChangesRow.holds Try.pinned (OpenSpec.ofChange Rows.pairChangesSpec) :=
  OpenClaim.holds_of_wide 4 Try.f4 rfl rfl rfl rfl rfl rfl rfl ⟨rfl, rfl, rfl, rfl, rfl⟩ rfl rfl rfl rfl rfl (by kernel_rfl) Try.func4 (by kernel_rfl)
    (of_decide_eq_true (by kernel_rfl)) (by unfold Func.isWrapper; first | (rw [if_pos (by decide +kernel)]; kernel_rfl) | (rw [if_neg (by decide +kernel)]; exact ⟨rfl, rfl⟩))
    (fun os started H enc _ => lifted os started H enc)

theorem proved : Rows.PairChangesSaid := over
#print axioms proved
end Go.Proofs.Ytfipifjlmepooaa.pairChanges
