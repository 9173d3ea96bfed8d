/- NodeNil: for every chunk and every pair the law returns true: of a nil node there is nothing, and a child that is nil is none. Conditions: none beyond the given statement. -/
import Derived.Test.YtgldgdpgbfejmaaRows
import Derived.WalkKit
import Derived.ProofKit
import Derived.OpenShut
import Derived.ShutString
import Derived.ChangeOld
import Derived.Below
import Derived.BigQuiet
import Derived.Deep.RegionHeld3
import Derived.Carry
import Derived.Lib.SmallJoins
import Derived.Test.YtgldgdpgbfejmaaNr
namespace Go.Proofs.Ytgldgdpgbfejmaa.nodeNil
open Go.ChangeShapes Go.WideShapes Go.ChangeAt Go.RowKit Go.Joins Go.Lib
open Go.ChangeMaps (open_string shut_string)
set_option linter.unusedVariables false
set_option linter.unusedSimpArgs false

theorem own : ownKnob Try.prog.godebug = none := by kernel_rfl
theorem laidOut : laidOutB Try.prog = true := by kernel_rfl

theorem keepB {w w' : World} {N : Nat} {x y : Value} (h : w.cell? ⟨N, 0, none⟩ = some x ∧ w.cell? ⟨N, 1, none⟩ = some y) (hb : Below w.heap.size w w') : w'.cell? ⟨N, 0, none⟩ = some x ∧ w'.cell? ⟨N, 1, none⟩ = some y :=
  ⟨(hb.cell (World.block_lt_of_cell? w _ h.1)).trans h.1, (hb.cell (World.block_lt_of_cell? w _ h.2)).trans h.2⟩
theorem new5 (w : World) : Calls Try.prog 26 #[] w fun e w' => ∃ b, e = .returned (.pointer (some ⟨b, 0, none⟩)) ∧ Inn w.heap.size w' b none (fun _ => .no) (.slice none 0 0) (.slice none 0 0) ∧ Below w.heap.size w w' :=
  (Inn.new w).mono fun e w' ⟨b, he, _, h, hB⟩ => ⟨b, he, h, hB⟩
theorem set5 (base a : Nat) (S : Slots) (pv kv : Value) (k u : ByteArray) (w : World) (h : Inn base w a none S pv kv) (hb : base ≤ w.heap.size) :
    Calls Try.prog 18 #[.pointer (some ⟨a, 0, none⟩), .pointer none, .int .i64 5, .agg #[.string k, .string u]] w fun e w' => ∃ b1 pv1 kv1, e = .returned (.pointer (some ⟨b1, 0, none⟩)) ∧ Inn base w' b1 none (S.put 5 (.pr (k, u))) pv1 kv1 ∧ Below w.heap.size w w' :=
  (Inn.setPair base a 5 none none false false S pv kv w h (TV.nil _) (TV.nil _) (by omega) hb (k, u)).mono fun e w' ⟨b1, p1, k1, he, hi, hc⟩ => ⟨b1, p1, k1, he, hi, hc.keepNew⟩
theorem clr5 (base a : Nat) (S : Slots) (pv kv : Value) (w : World) (h : Inn base w a none S pv kv) (hb : base ≤ w.heap.size) :
    Calls Try.prog 19 #[.pointer (some ⟨a, 0, none⟩), .pointer none, .int .i64 5, .pointer none] w fun e w' => ∃ b1 pv1 kv1, e = .returned (.pointer (some ⟨b1, 0, none⟩)) ∧ Inn base w' b1 none (S.put 5 .no) pv1 kv1 ∧ Below w.heap.size w w' :=
  (Inn.setKidNil base a 5 none none false false S pv kv w h (TV.nil _) (TV.nil _) (by omega) hb).mono fun e w' ⟨b1, p1, k1, he, hi, hc⟩ => ⟨b1, p1, k1, he, hi, hc.keepNew⟩
theorem len5 (base a : Nat) (pv kv : Value) (k u : ByteArray) (w : World) (h : Inn base w a none (Slots.put (Slots.put (fun _ => .no) 5 (.pr (k, u))) 5 .no) pv kv) :
    Calls Try.prog 30 #[.pointer (some ⟨a, 0, none⟩)] w fun e w' => e = .returned (.int .i64 0) ∧ ∃ k, w' = w.drewN k := by
  have e : ∀ j, (Slots.put (Slots.put (fun _ => .no) 5 (.pr (k, u))) 5 .no) j = .no := fun j => by
    unfold Slots.put
    by_cases h : j = 5 <;> simp [h]
  have e1 : (fm (Slots.P (Slots.put (Slots.put (fun _ => .no) 5 (.pr (k, u))) 5 .no)) 32) = [] := by
    rw [fm_same (fun _ => none) _ (fun j => by unfold Slots.P; rw [e j]; rfl)]; decide
  have e2 : (fm (Slots.K (Slots.put (Slots.put (fun _ => .no) 5 (.pr (k, u))) 5 .no)) 32) = [] := by
    rw [fm_same (fun _ => none) _ (fun j => by unfold Slots.K; rw [e j]; rfl)]; decide
  have hl := Inn.len base a none _ pv kv w h
  rw [e1, e2] at hl
  exact hl
theorem own5 (base a : Nat) (S : Slots) (pv kv : Value) (w : World) (h : Inn base w a none S pv kv) : Calls Try.prog 31 #[.pointer (some ⟨a, 0, none⟩), .pointer none] w fun e w' => e = .returned (.bool false) ∧ w = w' :=
  Inn.owned base a none none false false S pv kv w h (TV.nil _) (TV.nil _)
set_option maxRecDepth 100000 in
set_option maxHeartbeats 8000000 in
theorem walk (i : Int) (k u : ByteArray) (w : World) (w0 : (Lit.int .i64 i).wf = true) :
    Calls Try.prog 5 #[.int .i64 i, .agg #[.string k, .string u]] w fun e w' => e = .returned (.bool true) ∧ Below w.heap.size w w' := by
  clear w0
  have hB0 := (Below.refl _ w).alloc (Nat.le_refl _) (.cells #[.string k, .string u] 27)
  have hbx := Blk.new w 27 #[.string k, .string u]
  go_enter Try.func5, Try.ntmps5
  go_upto_region 1 with (fail)
  generalize w.alloc (.cells #[.string k, .string u] 27) = W at *
  obtain ⟨N, hN⟩ : ∃ N, N = w.heap.size := ⟨_, rfl⟩
  rw [← hN] at hbx ⊢
  clear hN
  go_wp2_with fail
  refine (awake5 W).mono ?_
  rintro e w1 ⟨rfl, hB⟩
  have hW := hB0.trans (hB.mono hB0.size)
  replace hbx := hbx.below hB
  clear hB0 hB
  go_wp2_with fail
  refine (pair_none (.pointer none) 0 i w1 (by decide) (Lib.hid (by simp)) (fun w' _ => data_nil w')).mono ?_
  rintro e w2 ⟨rfl, hB⟩
  replace hW := hW.trans (hB.mono hW.size)
  replace hbx := hbx.below hB
  have hW2 := hW.alloc hW.size (.cells #[.string ⟨#[]⟩, .string ⟨#[]⟩] 27)
  have hbx2 := hbx.alloc (.cells #[.string ⟨#[]⟩, .string ⟨#[]⟩] 27)
  have hbz := Blk.new w2 27 #[.string ⟨#[]⟩, .string ⟨#[]⟩]
  clear hB
  unfold optP
  have hnl := hbx2.lt
  have hlt : N < w2.heap.size := hbx.lt
  have hne : ¬ (N = w2.heap.size) := by omega
  have z0 := hbz.cell 0
  have z1 := hbz.cell 1
  have y0 := hbz.frozen 0
  have y1 := hbz.frozen 1
  simp only [List.getElem?_toArray, List.getElem?_cons_succ, List.getElem?_cons_zero] at z0 z1
  have hW3 := hW2
  have hbx3 := hbx2
  clear hW hbx hW2 hbx2 hbz hnl
  go_upto_region 5 with (fail)
  generalize w2.alloc (.cells #[.string ⟨#[]⟩, .string ⟨#[]⟩] 27) = W3 at *
  clear z0 z1 y0 y1
  go_wp2_with fail
  refine (kid_none (.pointer none) 0 i W3 (by decide) (Lib.hid (by simp)) (nodes_nil W3)).mono ?_
  rintro e w4 ⟨rfl, hB⟩
  have hW := hW3.trans (hB.mono hW3.size)
  have hbx := hbx3.below hB
  clear hW3 hbx3 hB
  unfold pt
  go_wp2_with fail
  have c0 : w4.cell? ⟨N, 0, none⟩ = some (.string k) := hbx.cell 0
  have c1 : w4.cell? ⟨N, 1, none⟩ = some (.string u) := hbx.cell 1
  replace hW := hW.drew
  replace hbx : Blk w4.drew N 27 #[.string k, .string u] := hbx
  have hk0 : w.heap.size ≤ w4.drew.heap.size := hW.size
  go_region_held3 (fun w' : World => w'.cell? ⟨N, 0, none⟩ = some (.string k) ∧ w'.cell? ⟨N, 1, none⟩ = some (.string u)) (first | exact ⟨c0, c1⟩ | exact keepB (by assumption) hB | go_keep) (first
    | (have _g := hA1; clear _g; go_at_call 19; refine (clr5 _ _ _ _ _ _ hA1 hb0).mono ?_; rintro e w7 ⟨a2, p2, k2, rfl, hA2, hB⟩; replace hW := hW.trans (hB.mono hW.size); replace hbx := hbx.below hB)
    | (have _g := hA; clear _g; go_at_call 18; refine (set5 _ _ _ _ _ _ _ _ hA hb0).mono ?_; rintro e w6 ⟨a1, p1, k1, rfl, hA1, hB⟩; replace hW := hW.trans (hB.mono hW.size); replace hbx := hbx.below hB; replace hb0 := Nat.le_trans hb0 hB.size)
    | (go_at_call 26; refine (new5 _).mono ?_; rintro e w5 ⟨a, rfl, hA, hB⟩; replace hW := hW.trans (hB.mono hW.size); replace hbx := hbx.below hB; have hb0 := hB.size))
  clear hA hA1 hB hb0 hk0 c0 c1 hlt hne
  have c0 : w7.cell? ⟨N, 0, none⟩ = some (.string k) := hbx.cell 0
  have c1 : w7.cell? ⟨N, 1, none⟩ = some (.string u) := hbx.cell 1
  go_wp2_with fail
  refine (isBucket_nil _).mono ?_
  rintro e w' ⟨rfl, rfl⟩
  go_wp2_with fail
  refine (data_nil _).mono ?_
  rintro e w' ⟨rfl, rfl⟩
  go_wp2_with fail
  refine (nodes_nil _).mono ?_
  rintro e w' ⟨rfl, rfl⟩
  go_wp2_with fail
  refine (pairs_nil _).mono ?_
  rintro e w' ⟨rfl, rfl⟩
  go_wp2_with fail
  refine (kids_nil _).mono ?_
  rintro e w' ⟨rfl, rfl⟩
  go_wp2_with fail
  refine (len_nil _).mono ?_
  rintro e w' ⟨rfl, rfl⟩
  go_wp2_with fail
  refine (owned_nil _ _).mono ?_
  rintro e w' ⟨rfl, rfl⟩
  have hcc := setPair_nil i (k, u) (.pointer none) w7
  unfold Pr.v at hcc
  go_wp2_with fail
  refine hcc.mono ?_
  rintro e w8 ⟨rfl, hB⟩
  replace hW := hW.trans (hB.mono hW.size)
  replace hbx := hbx.below hB
  replace hA2 := hA2.below hB
  clear hB hcc c0 c1
  have c0 : w8.cell? ⟨N, 0, none⟩ = some (.string k) := hbx.cell 0
  have c1 : w8.cell? ⟨N, 1, none⟩ = some (.string u) := hbx.cell 1
  have hsk := setKid_clear (.pointer none) (.pointer none) i w8 (fun e w' => e = .returned (.pointer none) ∧ w8 = w') ((clear_nil i (.pointer none) w8).mono fun e w' ⟨he, hw⟩ => ⟨none, he, rfl, hw⟩)
  go_wp2_with fail
  refine (hsk).mono ?_
  rintro e w' ⟨rfl, rfl⟩
  clear hsk
  have hsk := setKid_nil i a2 (.pointer none) w8
  unfold at0 at hsk
  go_wp2_with fail
  refine (hsk).mono ?_
  rintro e w' ⟨rfl, rfl⟩
  clear hsk
  go_wp2_with fail
  refine (clear_nil i _ _).mono ?_
  rintro e w' ⟨rfl, rfl⟩
  have hcc := put_nil (k, u) (.pointer none) w8
  unfold Pr.v at hcc
  go_wp2_with fail
  refine hcc.mono ?_
  rintro e w9 ⟨rfl, hB⟩
  replace hW := hW.trans (hB.mono hW.size)
  replace hbx := hbx.below hB
  replace hA2 := hA2.below hB
  clear hB hcc c0 c1
  have c0 : w9.cell? ⟨N, 0, none⟩ = some (.string k) := hbx.cell 0
  have c1 : w9.cell? ⟨N, 1, none⟩ = some (.string u) := hbx.cell 1
  go_wp2_with fail
  refine (drop_nil k _ _).mono ?_
  rintro e w' ⟨rfl, rfl⟩
  go_wp2_with fail
  refine (len5 _ _ _ _ _ _ _ hA2).mono ?_
  rintro e w' ⟨rfl, kk, rfl⟩
  have hA3 := hA2.drewN kk
  have hW3 : Below w.heap.size w (w9.drewN kk) := ⟨hW.os, hW.tape, hW.output, hW.size, hW.block⟩
  clear hA2 hW c0 c1 hbx
  go_wp2_with fail
  refine (own5 _ _ _ _ _ _ hA3).mono ?_
  rintro e w' ⟨rfl, rfl⟩
  go_wp2_with fail
  go_ret
  exact ⟨rfl, hW3⟩

/-! ### THE ROW's STEP -/
set_option maxRecDepth 100000 in
theorem lifted (os : Os) (started : os.Started) (H : Type) (enc : TypeId × Value → H) :
    ReturnsInHanded {} Try.checked os 5 .any (Rows.nodeNilSpec.pre6 enc Try.prog Try.f5 Rows.nodeNilRow.domain false) (Rows.nodeNilSpec.post enc Try.prog Try.f5 false true false false) := by
  refine returnsInHanded_of_change (C := Try.checked) own started (by kernel_rfl) Try.func5
    (ChangeSpec.witness6 (enc := enc) (C := Try.checked) false ⟨#[], #[.int .i64 0, .agg #[.string ByteArray.empty, .string ByteArray.empty]], []⟩ 8 (by kernel_rfl) (by kernel_rfl) (by kernel_rfl) (by kernel_rfl)) ?_
  intro W base args ds gs before hval0 hW hcnd _
  have hval : ∀ (j : Nat) t v, Try.f5.params[j]? = some t → args[j]? = some v → Value.okWide Try.prog W .any base t v := hval0
  have hW' := hW
  obtain ⟨p, q, hA0, hV, rfl, hfz, hnd⟩ := hW
  have hA : DataW.TrodAll enc Try.prog W 0 (fun _ => true) true Try.f5.params.toList args.toList ds p := hA0
  rw [Try.params5] at hA hval
  obtain ⟨v0, vs0, d0, ds0, p0, q0, hargs, rfl, rfl, h0, r0⟩ := trodAll_cons hA
  obtain ⟨v1, vs1, d1, ds1, p1, q1, rfl, rfl, rfl, h1, r1⟩ := trodAll_cons r0
  obtain ⟨rfl, rfl, rfl⟩ := trodAll_nil r1
  obtain rfl : args = #[v0, v1] := by cases args; simp_all
  obtain ⟨rfl, rfl⟩ := trodVars_none hV
  have k0 := h0
  have lt0 : ∀ x ∈ p0, x.block < W.heap.size := by obtain ⟨m, hm⟩ := k0; exact DataW.trod_lt m _ _ _ hm
  obtain ⟨a0, rfl, rfl, rfl, w0⟩ := open_int Try.underlying3 (hval 0 3 v0 rfl rfl) h0
  have k1 := h1
  have lt1 : ∀ x ∈ p1, x.block < W.heap.size := by obtain ⟨m, hm⟩ := k1; exact DataW.trod_lt m _ _ _ hm
  obtain ⟨x1, y1, rfl, s1⟩ := open_pair (hval 1 27 v1 rfl rfl) h1
  clear hA0 hval0
  refine (walk a0 x1 y1 W w0).mono fun e W' ⟨he, bel⟩ => ?_
  subst he
  exact ⟨_, rfl, _, _, _, [], _, [], hW', trodAll_mk1 (shut_bool Try.underlying4 _), (trodAll_cons_mk (Below.trod laidOut (by kernel_rfl) (of_decide_eq_true (by kernel_rfl)) k0 bel lt0) (trodAll_cons_mk (Below.trod laidOut (by kernel_rfl) (of_decide_eq_true (by kernel_rfl)) k1 bel lt1) trodAll_mk0)), rfl, bel.frame _, fun h => by cases h⟩

theorem over : Rows.nodeNilRow.holds Try.pinned (OpenSpec.ofChange Rows.nodeNilSpec) :=
  OpenClaim.holds_of_wide 5 Try.f5 rfl rfl rfl rfl rfl rfl rfl ⟨rfl, rfl, rfl, rfl, rfl⟩ rfl rfl rfl rfl rfl (by kernel_rfl) Try.func5 (by kernel_rfl)
    (of_decide_eq_true (by kernel_rfl)) (by unfold Func.isWrapper; first | (rw [if_pos (by decide +kernel)]; kernel_rfl) | (rw [if_neg (by decide +kernel)]; exact ⟨rfl, rfl⟩))
    (fun os started H enc _ => lifted os started H enc)

theorem proved : Rows.NodeNilSaid := over
#print axioms proved
end Go.Proofs.Ytgldgdpgbfejmaa.nodeNil
