/- Every script of changes leaves the nodes as the document has them (the call returns true, for every list of acts). -/
import Derived.Test.YtgldgdpgbfejmaaRows
import Derived.WalkKit
import Derived.ProofKit
import Derived.OpenShut
import Derived.ShutString
import Derived.ChangeOld
import Derived.Below
import Derived.Carry
import Derived.Lib.SmallJoins
import Derived.Test.YtgldgdpgbfejmaaMW
import Derived.Test.YtgldgdpgbfejmaaYp
namespace Go.Proofs.Ytgldgdpgbfejmaa.nodePlays
open Go.ChangeShapes Go.WideShapes Go.ChangeAt Go.RowKit Go.Joins
open Go.Lib Go.Conc
open Go.ChangeMaps (open_string shut_string)
set_option linter.unusedVariables false
set_option linter.unusedSimpArgs false

theorem own : ownKnob Try.prog.godebug = none := by kernel_rfl
theorem laidOut : laidOutB Try.prog = true := by kernel_rfl

noncomputable def plays11 : Code := (Try.f3.body.bind (fromRegion 11)).getD .skip
set_option maxRecDepth 100000 in
set_option maxHeartbeats 4000000 in
theorem plays11_any (post : Ending → World → Prop) (base p c xb wb : Nat) (lw tw Nv Lv : Value) (ts : List (Option Nat)) (lv : List Bool) (bs : List NB) (ns : List (RN × Value)) (w : World)
    (hC : Cr base w p c xb Nv Lv ts lv bs ns) (hL : Li base w wb p xb lw tw ts (bs.map (·.b)) bs) (hF : Few 60 ns) (hpost : ∀ w', Below w.heap.size w w' → post (.returned (.bool true)) w') (x0 x1 x2 x4 x5 x6 x7 x8 x9 x10 x11 x12 x13 x14 x15 x16 x17 x18 x19 x20 x21 x22 x23 x24 x25 x26 x27 x28 x29 x30 x31 x32 x33 x34 x35 x36 : Value) :
    Code.wp Try.prog plays11 (bodyPost Try.prog Try.f3 post) ⟨#[x0, x1, x2, .pointer (some ⟨wb, 0, none⟩), x4, x5, x6, x7, x8, x9, x10, x11, x12, x13, x14, x15, x16, x17, x18, x19, x20, x21, x22, x23, x24, x25, x26, x27, x28, x29, x30, x31, x32, x33, x34, x35, x36], []⟩ w := by
  have hlen := hC.len
  have hpos := hF.1
  have hbl : (bs.map (·.b)).length = ns.length := by rw [List.length_map, hlen]
  obtain ⟨g, lc, cur, rfl, -⟩ := own_blk hL.l (by omega)
  have c0 : w.cell? ⟨wb, 0, none⟩ = some (.slice (some ⟨g, 0, none⟩) ns.length lc) := by have := hL.blk.cell 0; rw [← hbl]; exact this
  have HK := Lib.hid (fun (i : Nat) (hi : i < ns.length) (wr : World) (hb : Below w.heap.size w wr) => by
    obtain ⟨nb, r, h1, h2, h3⟩ := hC.node i hi
    have hm := List.mem_of_getElem? h2
    have h4 := hF.2 r hm
    exact like_post (fun e w' => e = .returned (.bool true) ∧ Below w.heap.size w w') base p c xb wb i _ tw Nv Lv r.2 ts lv (bs.map (·.b)) bs ns nb r.1 wr (hC.tks.keep (Keep.of_below (X := []) hb) (by simp)) (hC.ref.below hb) (hL.below hb) (h3.below hb) (fun i k e => by rw [hbl]; exact hC.kids r hm i k e) (by omega) (by omega) (hC.ows r hm) (by omega) (by rw [List.getElem?_map, h1]; rfl) h2 (fun w' hw => ⟨rfl, hb.trans (hw.mono hb.size)⟩))
  have HP := Lib.hid hpost
  obtain ⟨N, hN⟩ : ∃ N, N = ns.length := ⟨_, rfl⟩
  rw [← hN] at c0 HK hpos
  clear hC hL hF hpost hlen hbl hN
  simp only []
  conv => arg 2; whnf
  go_wp2_with fail
  go_loopw [29] (fun vi wr => ∃ j : Nat, j ≤ N ∧ vi = .int .i64 j ∧ Below w.heap.size w wr) (fun vi wr => N - (intOf vi).toNat)
  case atStart => exact ⟨0, by omega, rfl, Below.refl _ _⟩
  case round =>
    obtain ⟨j, hj, rfl, hB⟩ := hrel
    by_cases hlt : j < N
    · have k := HK.out j hlt wr hB
      have L1 : (j : Int) < (N : Int) := by omega
      have L2 : IntKind.i64.wrap ((j : Int) + 1) = ((j + 1 : Nat) : Int) := by rw [IntWalk.i64_in _ (by omega)]; omega
      unfold at0 at k
      clear HK HP
      go_wp2_with fail
      refine k.mono ?_
      rintro e w1 ⟨rfl, hB1⟩
      go_wp2_with fail
      exact ⟨⟨j + 1, by omega, by go_num, hB1⟩, by simp [intOf]; omega⟩
    · clear HK
      go_wp2_with fail
      exact HP.out _ hB

set_option maxRecDepth 100000 in
set_option maxHeartbeats 4000000 in
theorem walk (a0 : Option Addr) (len0 cap0 : Nat) (w : World) (hp : ArgA w a0 len0 cap0) :
    Calls Try.prog 3 #[.slice a0 len0 cap0] w fun e w' => e = .returned (.bool true) ∧ Below w.heap.size w w' := by
  have hl := hp.len_le
  have HP := Lib.hid hp
  clear hp
  go_enter Try.func3, Try.ntmps3
  go_wp2_with fail
  refine (awake5 w).mono ?_
  rintro e w1 ⟨rfl, hB1⟩
  go_wp2_with fail
  refine (made_any w1).mono ?_
  rintro e w2 ⟨wb, p, c, xb, b0, b1, lw, tw, Nv, Lv, ts, rfl, hM, hB2⟩
  obtain ⟨hC, hL, hF⟩ := hM.done
  obtain ⟨base, hbe⟩ : ∃ base, base = w1.heap.size := ⟨_, rfl⟩
  rw [← hbe] at hC hL hB2
  have hb0 : w.heap.size ≤ base := by rw [hbe]; exact hB1.size
  have hb1 : base ≤ w2.heap.size := by rw [hbe]; exact hB2.size
  have hB12 := hB1.trans (hB2.mono hb0)
  have HM := Lib.hid (⟨_, _, _, _, _, _, hC, hL, hF⟩ : ∃ lw Nv Lv lv bs ns, Cr base w2 p c xb Nv Lv ts lv bs ns ∧ Li base w2 wb p xb lw tw ts (bs.map (·.b)) bs ∧ Few 0 ns)
  clear hM hC hL hF hbe hB1 hB2
  unfold maxLen at hl
  go_wp2_with fail
  go_loopw [12] (fun vi wr => ∃ j : Nat, j ≤ len0 ∧ j ≤ 50 ∧ vi = .int .i64 j ∧ (∃ lw Nv Lv lv bs ns, Cr base wr p c xb Nv Lv ts lv bs ns ∧ Li base wr wb p xb lw tw ts (bs.map (·.b)) bs ∧ Few j ns) ∧ base ≤ wr.heap.size ∧ Below w.heap.size w wr) (fun vi wr => len0 - (intOf vi).toNat)
  case atStart => exact ⟨0, by omega, by omega, rfl, HM.out, hb1, hB12⟩
  case round =>
    clear HM hb1 hB12
    obtain ⟨j, hj, hj5, rfl, ⟨lw, Nv, Lv, lv, bs, ns, hC, hL, hF⟩, hbr, hBr⟩ := hrel
    have TAIL : True := trivial
    by_cases hlt : j < len0
    · have hA := HP.out.below hBr
      rcases hA with ⟨_, h, _⟩ | ⟨x, rfl, hm1, hm2, hA⟩
      · omega
      obtain ⟨dd, na, ka, ta, i, q, l0, l1, l2, l3, hq, hcs⟩ := hA j hlt
      have c0 : wr.cell? (x.add (j * 7)) = some (.int .u8 dd) := hcs 0 _ rfl
      have c1 : wr.cell? ⟨(x.add (j * 7)).block, (x.add (j * 7)).off + 1, none⟩ = some (.int .u8 na) := hcs 1 _ rfl
      have c2 : wr.cell? ⟨(x.add (j * 7)).block, (x.add (j * 7)).off + 2, none⟩ = some (.int .u8 ka) := hcs 2 _ rfl
      have c3 : wr.cell? ⟨(x.add (j * 7)).block, (x.add (j * 7)).off + 3, none⟩ = some (.int .u8 ta) := hcs 3 _ rfl
      have c4 : wr.cell? ⟨(x.add (j * 7)).block, (x.add (j * 7)).off + 4, none⟩ = some (.int .i64 i) := hcs 4 _ rfl
      have c5 : wr.cell? ⟨(x.add (j * 7)).block, (x.add (j * 7)).off + 5, none⟩ = some (.string q.1) := hcs 5 _ rfl
      have c6 : wr.cell? ⟨(x.add (j * 7)).block, (x.add (j * 7)).off + 6, none⟩ = some (.string q.2) := hcs 6 _ rfl
      have L1 : (j : Int) < (len0 : Int) := by omega
      have L2 : IntKind.i64.wrap ((j : Int) + 1) = ((j + 1 : Nat) : Int) := by rw [IntWalk.i64_in _ (by omega)]; omega
      clear hcs hA
      have HCX := Lib.hid (And.intro hC (And.intro hL hF))
      have HBr := Lib.hid hBr
      clear hC hL hF hBr
      go_upto_region 7 with (fail)
      have hBa := (Below.refl _ wr).alloc (Nat.le_refl _) (.cells #[.int .u8 dd, .int .u8 na, .int .u8 ka, .int .u8 ta, .int .i64 i, .string q.1, .string q.2] 29)
      have hbx := Blk.new wr 29 #[.int .u8 dd, .int .u8 na, .int .u8 ka, .int .u8 ta, .int .i64 i, .string q.1, .string q.2]
      have HBa := Lib.hid hBa
      clear c0 c1 c2 c3 c4 c5 c6 hBa
      generalize hWe : wr.alloc (.cells #[.int .u8 dd, .int .u8 na, .int .u8 ka, .int .u8 ta, .int .i64 i, .string q.1, .string q.2] 29) = W at *
      generalize hNe : wr.heap.size = N at *
      have d0 := hbx.cell 0
      have d1 := hbx.cell 1
      have d2 := hbx.cell 2
      have d3 := hbx.cell 3
      have d4 := hbx.cell 4
      have d5 := hbx.cell 5
      have d6 := hbx.cell 6
      simp only [List.getElem?_toArray, List.getElem?_cons_succ, List.getElem?_cons_zero] at d0 d1 d2 d3 d4 d5 d6
      obtain ⟨hC, hL, hF⟩ := HCX.out
      have hBa := HBa.out
      rw [← hNe] at hBa
      have hC1 := hC.below hBa
      have hL1 := hL.below hBa
      have hBw : Below w.heap.size w W := HBr.out.trans (hBa.mono HBr.out.size)
      have hbW : base ≤ W.heap.size := Nat.le_trans (hNe ▸ hbr) hBa.size
      have hpos := hF.1.1
      have HB := Lib.hid hBw
      clear hC hL hBa hBw hbx HBa HCX HBr hWe
      by_cases h50 : j = 50
      · subst h50
        have HT := Lib.hid (plays11_any (fun e w' => e = .returned (.bool true) ∧ Below w.heap.size w w') base p c xb wb lw tw Nv Lv ts lv bs ns W hC1 hL1 ⟨⟨hF.1.1, by have := hF.1.2; omega⟩, fun r hr => Nat.le_trans (hF.2 r hr) (by omega)⟩ (fun w' hw => ⟨rfl, HB.out.trans (hw.mono HB.out.size)⟩))
        clear hC1 hL1 hF d0 d1 d2 d3 d4 d5 d6
        repeat (first | exact HT.out _ _ _ _ _ _ _ _ _ _ _ _ _ _ _ _ _ _ _ _ _ _ _ _ _ _ _ _ _ _ _ _ _ _ _ _ | go_step)
      · have L5 : (j : Int) < 50 := by omega
        have hd := do_any base p c xb wb j dd na ka ta i q lw tw Nv Lv ts lv bs ns W hC1 hL1 hF hpos (by omega) hbW l0 l1 l2 l3 hq
        clear hC1 hL1 hF
        go_wp2_with fail
        refine hd.mono ?_
        rintro e w3 ⟨rfl, lw', Nv', Lv', lv', bs', ns', hC', hL', hF', hB3⟩
        have hB4 := HB.out.trans (hB3.mono hb0)
        have HX := Lib.hid (And.intro hC' (And.intro hL' hF'))
        have hb3 := Nat.le_trans hbW hB3.size
        clear hC' hL' hF' hB3 hd
        go_wp2_with fail
        exact ⟨⟨j + 1, by omega, by omega, by go_num, ⟨lw', Nv', Lv', lv', bs', ns', HX.out⟩, hb3, hB4⟩, by simp [intOf]; omega⟩
    · obtain rfl : j = len0 := by omega
      have HT := Lib.hid (plays11_any (fun e w' => e = .returned (.bool true) ∧ Below w.heap.size w w') base p c xb wb lw tw Nv Lv ts lv bs ns wr hC hL ⟨⟨hF.1.1, by have := hF.1.2; omega⟩, fun r hr => Nat.le_trans (hF.2 r hr) (by omega)⟩ (fun w' hw => ⟨rfl, hBr.trans (hw.mono hBr.size)⟩))
      clear hC hL hF hBr HP
      repeat (first | exact HT.out _ _ _ _ _ _ _ _ _ _ _ _ _ _ _ _ _ _ _ _ _ _ _ _ _ _ _ _ _ _ _ _ _ _ _ _ | go_step)

/-! ### THE ROW's STEP -/
set_option maxRecDepth 100000 in
theorem lifted (os : Os) (started : os.Started) (H : Type) (enc : TypeId × Value → H) :
    ReturnsInHanded {} Try.checked os 3 .any (Rows.nodePlaysSpec.pre6 enc Try.prog Try.f3 Rows.nodePlaysRow.domain false) (Rows.nodePlaysSpec.post enc Try.prog Try.f3 false true false false) := by
  refine returnsInHanded_of_change (C := Try.checked) own started (by kernel_rfl) Try.func3
    (ChangeSpec.witness6 (enc := enc) (C := Try.checked) false ⟨#[], #[.slice none 0 0], []⟩ 8 (by kernel_rfl) (by kernel_rfl) (by kernel_rfl) (by kernel_rfl)) ?_
  intro W base args ds gs before hval0 hW hcnd _
  have hval : ∀ (j : Nat) t v, Try.f3.params[j]? = some t → args[j]? = some v → Value.okWide Try.prog W .any base t v := hval0
  have hW' := hW
  obtain ⟨p, q, hA0, hV, rfl, hfz, hnd⟩ := hW
  have hA : DataW.TrodAll enc Try.prog W 0 (fun _ => true) true Try.f3.params.toList args.toList ds p := hA0
  rw [Try.params3] at hA hval
  obtain ⟨v0, vs0, d0, ds0, p0, q0, hargs, rfl, rfl, h0, r0⟩ := trodAll_cons hA
  obtain ⟨rfl, rfl, rfl⟩ := trodAll_nil r0
  obtain rfl : args = #[v0] := by cases args; simp_all
  obtain ⟨rfl, rfl⟩ := trodVars_none hV
  obtain ⟨a0, len0, cap0, rfl⟩ := okWide_slice Try.underlying22 (hval 0 22 v0 rfl rfl)
  have k0 := h0
  have lt0 : ∀ x ∈ p0, x.block < W.heap.size := by obtain ⟨m, hm⟩ := k0; exact DataW.trod_lt m _ _ _ hm
  have w0 := open_acts h0
  clear hA0 hval0
  refine (walk a0 len0 cap0 W w0).mono fun e W' ⟨he, bel⟩ => ?_
  subst he
  exact ⟨_, rfl, _, _, _, [], _, [], hW', trodAll_mk1 (shut_bool Try.underlying4 _), (trodAll_cons_mk (Below.trod laidOut (by kernel_rfl) (of_decide_eq_true (by kernel_rfl)) k0 bel lt0) trodAll_mk0), rfl, bel.frame _, fun h => by cases h⟩

theorem over : Rows.nodePlaysRow.holds Try.pinned (OpenSpec.ofChange Rows.nodePlaysSpec) :=
  OpenClaim.holds_of_wide 3 Try.f3 rfl rfl rfl rfl rfl rfl rfl ⟨rfl, rfl, rfl, rfl, rfl⟩ rfl rfl rfl rfl rfl (by kernel_rfl) Try.func3 (by kernel_rfl)
    (of_decide_eq_true (by kernel_rfl)) (by unfold Func.isWrapper; first | (rw [if_pos (by decide +kernel)]; kernel_rfl) | (rw [if_neg (by decide +kernel)]; exact ⟨rfl, rfl⟩))
    (fun os started H enc _ => lifted os started H enc)

theorem proved : Rows.NodePlaysSaid := over
#print axioms proved
end Go.Proofs.Ytgldgdpgbfejmaa.nodePlays
