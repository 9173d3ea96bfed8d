/- What one makes of a node without a token leaves it as it is (the call returns true, for every list of acts, chunk and pair). -/
import Derived.Test.YtgldgdpgbfejmaaRows
import Derived.WalkKit
import Derived.ProofKit
import Derived.OpenShut
import Derived.ShutString
import Derived.ChangeOld
import Derived.Below
import Derived.Carry
import Derived.Lib.SmallJoins
import Derived.Test.YtgldgdpgbfejmaaZb
import Derived.Test.YtgldgdpgbfejmaaYp
namespace Go.Proofs.Ytgldgdpgbfejmaa.nodeStays
open Go.ChangeShapes Go.WideShapes Go.ChangeAt Go.RowKit Go.Joins
open Go.Lib Go.Conc
open Go.ChangeMaps (open_string shut_string)
set_option linter.unusedVariables false
set_option linter.unusedSimpArgs false

theorem own : ownKnob Try.prog.godebug = none := by kernel_rfl
theorem laidOut : laidOutB Try.prog = true := by kernel_rfl

noncomputable def stays10 : Code := (Try.f4.body.bind (fromRegion 10)).getD .skip
set_option maxRecDepth 100000 in
set_option maxHeartbeats 8000000 in
theorem stays10_any (post : Ending → World → Prop) (base p c xb wb X : Nat) (ii : Int) (pk pu : ByteArray) (lw tw Nv Lv : Value) (ts : List (Option Nat)) (lv : List Bool) (bs : List NB) (ns : List (RN × Value)) (w : World)
    (hC : Cr base w p c xb Nv Lv ts lv bs ns) (hL : Li base w wb p xb lw tw ts (bs.map (·.b)) bs) (hF : Few 60 ns) (hX : Blk w X 27 #[.string pk, .string pu]) (hbase : base ≤ w.heap.size) (hpost : ∀ w', Below w.heap.size w w' → post (.returned (.bool true)) w') (x0 x2 x3 x4 x6 x8 x9 x10 x11 x12 x13 x14 x15 x16 x17 x18 x19 x20 x21 x22 x23 x24 x25 x26 x27 x28 x29 x30 x31 x32 x33 x34 x35 x36 x37 x38 x39 x40 x41 x42 x43 x44 x45 x46 x47 x48 x49 x50 x51 x52 x53 x54 x55 x56 x57 x58 x59 x60 x61 x62 x63 x64 x65 x66 x67 x68 x69 x70 x71 x72 x73 x74 x75 x76 x77 x78 x79 x80 x81 x82 x83 x84 x85 x86 x87 : Value) :
    Code.wp Try.prog stays10 (bodyPost Try.prog Try.f4 post) ⟨#[x0, .int .i64 ii, x2, x3, x4, .pointer (some ⟨X, 0, none⟩), x6, .pointer (some ⟨wb, 0, none⟩), x8, x9, x10, x11, x12, x13, x14, x15, x16, x17, x18, x19, x20, x21, x22, x23, x24, x25, x26, x27, x28, x29, x30, x31, x32, x33, x34, x35, x36, x37, x38, x39, x40, x41, x42, x43, x44, x45, x46, x47, x48, x49, x50, x51, x52, x53, x54, x55, x56, x57, x58, x59, x60, x61, x62, x63, x64, x65, x66, x67, x68, x69, x70, x71, x72, x73, x74, x75, x76, x77, x78, x79, x80, x81, x82, x83, x84, x85, x86, x87], []⟩ w := by
  have hlen := hC.len
  have hpos := hF.1
  have hbl : (bs.map (·.b)).length = ns.length := by rw [List.length_map, hlen]
  obtain ⟨g, lc, cur, rfl, -⟩ := own_blk hL.l (by omega)
  have c0 : w.cell? ⟨wb, 0, none⟩ = some (.slice (some ⟨g, 0, none⟩) ns.length lc) := by have := hL.blk.cell 0; rw [← hbl]; exact this
  have HK := Lib.hid (fun (i : Nat) (hi : i < ns.length) => by
    obtain ⟨nb, r, h1, h2, h3⟩ := hC.node i hi
    have hm := List.mem_of_getElem? h2
    have h4 := hF.2 r hm
    obtain ⟨g', cap', e', -, hcell⟩ := hL.l.atK i nb.b (by rw [List.getElem?_map, h1]; rfl)
    cases e'
    exact (⟨nb, r, hcell, h3, hC.ows r hm, h4, fun (wr : World) (hb : Below w.heap.size w wr) => like_post (fun e w' => e = .returned (.bool true) ∧ Below w.heap.size w w') base p c xb wb i _ tw Nv Lv r.2 ts lv (bs.map (·.b)) bs ns nb r.1 wr (hC.tks.keep (Keep.of_below (X := []) hb) (by simp)) (hC.ref.below hb) (hL.below hb) (h3.below hb) (fun i k e => by rw [hbl]; exact hC.kids r hm i k e) (by omega) (by omega) (hC.ows r hm) (by omega) (by rw [List.getElem?_map, h1]; rfl) h2 (fun w' hw => ⟨rfl, hb.trans (hw.mono hb.size)⟩)⟩ : ∃ (nb : NB) (r : RN × Value), w.cell? ⟨g, i, none⟩ = some (at0 nb.b) ∧ NodeIs base w ts (bs.map (·.b)) nb r.1 ∧ r.1.ow < 5 ∧ r.1.L.length ≤ 60 ∧ ∀ wr, Below w.heap.size w wr → Calls Try.prog 15 #[at0 wb, .int .i64 i] wr (fun e w' => e = .returned (.bool true) ∧ Below w.heap.size w w')))
  have HP := Lib.hid hpost
  have HT := Lib.hid (fun (wr : World) (hb : Below w.heap.size w wr) => hC.tks.keep (Keep.of_below (X := []) hb) (by simp))
  have HX := Lib.hid hX
  obtain ⟨N, hN⟩ : ∃ N, N = ns.length := ⟨_, rfl⟩
  rw [← hN] at c0 HK hpos
  clear hC hL hF hpost hlen hbl hN hX
  simp only []
  conv => arg 2; whnf
  go_wp2_with fail
  go_loopw [37] (fun vi wr => ∃ j : Nat, j ≤ N ∧ vi = .int .i64 j ∧ Below w.heap.size w wr) (fun vi wr => N - (intOf vi).toNat)
  case atStart => exact ⟨0, by omega, rfl, Below.refl _ _⟩
  case round =>
    obtain ⟨j, hj, rfl, hB⟩ := hrel
    by_cases hlt : j < N
    · obtain ⟨nb, r, hcell, hN0, how, hLl, hlike⟩ := HK.out j hlt
      replace hcell : wr.cell? ⟨g, j, none⟩ = some (.pointer (some ⟨nb.b, 0, none⟩)) := (hB.cell (World.block_lt_of_cell? w _ hcell)).trans hcell
      have L1 : (j : Int) < (N : Int) := by omega
      have L2 : IntKind.i64.wrap ((j : Int) + 1) = ((j + 1 : Nat) : Int) := by rw [IntWalk.i64_in _ (by omega)]; omega
      have hN1 := hN0.below hB
      have HN := Lib.hid hN1
      have HTk := Lib.hid (HT.out wr hB)
      have HLk := Lib.hid hlike
      have HXr := Lib.hid (HX.out.below hB)
      have HB := Lib.hid hB
      have hbr := Nat.le_trans hbase hB.size
      obtain ⟨d, nn, xq, kq, hv, lx, lk⟩ := hN1.ndv
      have k1 := pairs_any base nb.b _ r.1.bk d nn nb.pv nb.kv xq kq wr hv (by omega)
      have HV := Lib.hid hv
      unfold at0 at k1
      clear HK HP HT HX hN0 hlike hN1 hv hB c0
      go_wp2_with fail
      refine k1.mono ?_
      rintro e w1 ⟨v1, rfl, hO1, hB1⟩
      have k2 := kids_any base nb.b _ r.1.bk d nn nb.pv nb.kv xq kq w1 (HV.out.below hB1) (by omega)
      obtain ⟨A1, q1, rfl⟩ := own_formN hO1
      have W1 := Wr.of hO1
      unfold at0 at k2
      clear k1 hO1 HV
      go_wp2_with fail
      refine k2.mono ?_
      rintro e w2 ⟨v2, rfl, hO2, hB2⟩
      obtain ⟨A2, q2, rfl⟩ := own_formN hO2
      have W2 : Wr wr w2 39 1 A2 kq.length := fun hn => by
        obtain ⟨g2, cur2, e, h1, h2, h3⟩ := Wr.of hO2 hn
        exact ⟨g2, cur2, e, Nat.le_trans hB1.size h1, h2, h3⟩
      have H1 := Lib.hid (W1.below hB2)
      have H2 := Lib.hid W2
      have HB2 := Lib.hid (hB1.trans (hB2.mono hB1.size))
      have LX : xq.length ≤ 800 := by omega
      obtain ⟨n1, hn1⟩ : ∃ n1, n1 = xq.length := ⟨_, rfl⟩
      obtain ⟨n2, hn2⟩ : ∃ n2, n2 = kq.length := ⟨_, rfl⟩
      rw [← hn1] at H1 LX ⊢
      rw [← hn2] at H2 lk ⊢
      clear k2 hO2 W1 W2 hB1 hB2 lx hn1 hn2
      go_wp2_with fail
      obtain ⟨w9, rfl⟩ : ∃ w9, w9 = wr := ⟨_, rfl⟩
      go_loopw [48] (fun vi wx => ∃ k : Nat, k ≤ n1 ∧ vi = .int .i64 k ∧ Wr w9 wx 27 2 A1 n1 ∧ Wr w9 wx 39 1 A2 n2 ∧ Below w9.heap.size w9 wx) (fun vi wx => n1 - (intOf vi).toNat)
      case atStart => exact ⟨0, by omega, rfl, H1.out, H2.out, HB2.out⟩
      case round =>
        clear H1 H2 HB2 hcell
        obtain ⟨k, hk, rfl, W1, W2, hBx⟩ := hrel
        by_cases hkl : k < n1
        · obtain ⟨g1, cur1, rfl, hg1, hb1, hs1⟩ := W1 (by omega)
          have M1 : (k : Int) < (n1 : Int) := by omega
          have M2 : IntKind.i64.wrap ((k : Int) + 1) = ((k + 1 : Nat) : Int) := by rw [IntWalk.i64_in _ (by omega)]; omega
          have p0 : wr.cell? ⟨X, 0, none⟩ = some (.string pk) := (HXr.out.below hBx).cell 0
          have p1 : wr.cell? ⟨X, 1, none⟩ = some (.string pu) := (HXr.out.below hBx).cell 1
          have hk2 : k * 2 + 1 < cur1.size := by omega
          have d0 : wr.cell? ⟨g1, k * 2, none⟩ = some cur1[k * 2] := by rw [hb1.cell]; exact Array.getElem?_eq_getElem (by omega)
          have d1 : wr.cell? ⟨g1, k * 2 + 1, none⟩ = some cur1[k * 2 + 1] := by rw [hb1.cell]; exact Array.getElem?_eq_getElem (by omega)
          have f0 := hb1.frozen (k * 2)
          have f1 := hb1.frozen (k * 2 + 1)
          have HW := Lib.hid (⟨W1, W2, hBx⟩ : Wr w9 wr 27 2 (some ⟨g1, 0, none⟩) n1 ∧ Wr w9 wr 39 1 A2 n2 ∧ Below w9.heap.size w9 wr)
          clear W1 W2 hBx hb1
          go_wp2_with fail
          obtain ⟨W1, W2, hBx⟩ := HW.out
          exact ⟨⟨k + 1, by omega, by go_num, (W1.stored _ _ _).stored _ _ _, (W2.stored _ _ _).stored _ _ _, (hBx.setCell (p := ⟨g1, _, none⟩) hg1 _).setCell (p := ⟨g1, _, none⟩) hg1 _⟩, by simp [intOf]; omega⟩
        · have H2 := Lib.hid W2
          have HB2 := Lib.hid hBx
          clear W1 W2 hBx
          go_wp2_with fail
          obtain ⟨w8, rfl⟩ : ∃ w8, w8 = wr := ⟨_, rfl⟩
          go_loopw [58] (fun vi wx => ∃ k : Nat, k ≤ n2 ∧ vi = .int .i64 k ∧ Wr w9 wx 39 1 A2 n2 ∧ Below w9.heap.size w9 wx) (fun vi wx => n2 - (intOf vi).toNat)
          case atStart => exact ⟨0, by omega, rfl, H2.out, HB2.out⟩
          case round =>
            clear H2 HB2
            obtain ⟨k, hk, rfl, W2, hBx⟩ := hrel
            by_cases hkl : k < n2
            · obtain ⟨g1, cur1, rfl, hg1, hb1, hs1⟩ := W2 (by omega)
              have M1 : (k : Int) < (n2 : Int) := by omega
              have M2 : IntKind.i64.wrap ((k : Int) + 1) = ((k + 1 : Nat) : Int) := by rw [IntWalk.i64_in _ (by omega)]; omega
              have hk2 : k < cur1.size := by omega
              have d0 : wr.cell? ⟨g1, k, none⟩ = some cur1[k] := by rw [hb1.cell]; exact Array.getElem?_eq_getElem (by omega)
              have f0 := hb1.frozen k
              have HW := Lib.hid (⟨W2, hBx⟩ : Wr w9 wr 39 1 (some ⟨g1, 0, none⟩) n2 ∧ Below w9.heap.size w9 wr)
              clear W2 hBx hb1
              go_wp2_with fail
              obtain ⟨W2, hBx⟩ := HW.out
              exact ⟨⟨k + 1, by omega, by go_num, W2.stored _ _ _, hBx.setCell (p := ⟨g1, _, none⟩) hg1 _⟩, by simp [intOf]; omega⟩
            · clear W2
              have p0 : wr.cell? ⟨X, 0, none⟩ = some (.string pk) := (HXr.out.below hBx).cell 0
              have p1 : wr.cell? ⟨X, 1, none⟩ = some (.string pu) := (HXr.out.below hBx).cell 1
              have n1 := HN.out.below hBx
              have t1 := HTk.out.keep (Keep.of_below (X := []) hBx) (by simp)
              have b1 := Nat.le_trans hbr hBx.size
              have k1 := n1.nilSet t1 how b1 ii (pk, pu)
              unfold at0 at k1
              unfold Pr.v at k1
              have HBx := Lib.hid hBx
              clear hBx n1 t1
              go_wp2_with fail
              refine k1.mono ?_
              rintro e w3 ⟨v3, rfl, hB3⟩
              have hBx3 := HBx.out.trans (hB3.mono HBx.out.size)
              have HBx3 := Lib.hid hBx3
              have kb := bucket_any w3
              clear k1 p0 p1 hB3 HBx hBx3
              unfold at0 at kb
              go_wp2_with fail
              refine kb.mono ?_
              rintro e w4 ⟨rfl, -, hB4⟩
              have hBx4 := HBx3.out.trans (hB4.mono HBx3.out.size)
              have n1 := HN.out.below hBx4
              have t1 := HTk.out.keep (Keep.of_below (X := []) hBx4) (by simp)
              have b1 := Nat.le_trans hbr hBx4.size
              have k1 := n1.nilKid t1 how b1 ii w3.heap.size
              unfold at0 at k1
              have HBx4 := Lib.hid hBx4
              clear kb hB4 hBx4 n1 t1 HBx3
              generalize w3.heap.size = NB at *
              go_wp2_with fail
              refine k1.mono ?_
              rintro e w5 ⟨v5, rfl, hB5⟩
              have hBx5 := HBx4.out.trans (hB5.mono HBx4.out.size)
              have n1 := HN.out.below hBx5
              have t1 := HTk.out.keep (Keep.of_below (X := []) hBx5) (by simp)
              have b1 := Nat.le_trans hbr hBx5.size
              have k1 := n1.nilClear t1 how b1 ii
              unfold at0 at k1
              have HBx5 := Lib.hid hBx5
              clear hB5 hBx5 n1 t1 HBx4
              go_wp2_with fail
              refine k1.mono ?_
              rintro e w6 ⟨v6, rfl, hB6⟩
              have hBx6 := HBx5.out.trans (hB6.mono HBx5.out.size)
              have n1 := HN.out.below hBx6
              have t1 := HTk.out.keep (Keep.of_below (X := []) hBx6) (by simp)
              have b1 := Nat.le_trans hbr hBx6.size
              have k1 := n1.nilPut t1 how b1 (pk, pu) (by omega)
              have p0 : w6.cell? ⟨X, 0, none⟩ = some (.string pk) := (HXr.out.below hBx6).cell 0
              have p1 : w6.cell? ⟨X, 1, none⟩ = some (.string pu) := (HXr.out.below hBx6).cell 1
              unfold at0 at k1
              unfold Pr.v at k1
              have HBx6 := Lib.hid hBx6
              clear hB6 hBx6 n1 t1 HBx5
              go_wp2_with fail
              refine k1.mono ?_
              rintro e w7 ⟨v7, rfl, hB7⟩
              have hBx7 := HBx6.out.trans (hB7.mono HBx6.out.size)
              have n1 := HN.out.below hBx7
              have t1 := HTk.out.keep (Keep.of_below (X := []) hBx7) (by simp)
              have b1 := Nat.le_trans hbr hBx7.size
              have k1 := n1.nilDrop t1 how b1 pk (by omega)
              have p0 : w7.cell? ⟨X, 0, none⟩ = some (.string pk) := (HXr.out.below hBx7).cell 0
              unfold at0 at k1
              have HBx7 := Lib.hid hBx7
              clear hB7 hBx7 n1 t1 HBx6 p1
              go_wp2_with fail
              refine k1.mono ?_
              rintro e w10 ⟨v10, rfl, hB10⟩
              have hBx10 := HBx7.out.trans (hB10.mono HBx7.out.size)
              have k1 := HLk.out w10 (HB.out.trans (hBx10.mono HB.out.size))
              unfold at0 at k1
              clear hB10 hBx10 HBx7 p0 HN HTk HXr
              go_wp2_with fail
              refine k1.mono ?_
              rintro e w11 ⟨rfl, hB11⟩
              go_wp2_with fail
              exact ⟨⟨j + 1, by omega, by go_num, hB11⟩, by simp [intOf]; omega⟩
    · clear HK
      go_wp2_with fail
      exact HP.out _ hB

set_option maxRecDepth 100000 in
set_option maxHeartbeats 4000000 in
theorem walk (a0 : Option Addr) (len0 cap0 : Nat) (ii : Int) (pk pu : ByteArray) (w : World) (hp : ArgA w a0 len0 cap0) (hw : (Lit.int .i64 ii).wf = true) :
    Calls Try.prog 4 #[.slice a0 len0 cap0, .int .i64 ii, .agg #[.string pk, .string pu]] w fun e w' => e = .returned (.bool true) ∧ Below w.heap.size w w' := by
  have hl := hp.len_le
  have HP := Lib.hid hp
  clear hp hw
  have hB0 := (Below.refl _ w).alloc (Nat.le_refl _) (.cells #[.string pk, .string pu] 27)
  have hbx := Blk.new w 27 #[.string pk, .string pu]
  go_enter Try.func4, Try.ntmps4
  go_upto_region 1 with (fail)
  generalize w.alloc (.cells #[.string pk, .string pu] 27) = W0 at *
  obtain ⟨X, hX⟩ : ∃ X, X = w.heap.size := ⟨_, rfl⟩
  rw [← hX] at hbx ⊢
  clear hX
  go_wp2_with fail
  refine (awake5 W0).mono ?_
  rintro e w1 ⟨rfl, hB1⟩
  go_wp2_with fail
  refine (made_any w1).mono ?_
  rintro e w2 ⟨wb, p, c, xb, b0, b1, lw, tw, Nv, Lv, ts, rfl, hM, hB2⟩
  obtain ⟨hC, hL, hF⟩ := hM.done
  have hB01 := hB0.trans (hB1.mono hB0.size)
  obtain ⟨base, hbe⟩ : ∃ base, base = w1.heap.size := ⟨_, rfl⟩
  have hX1 := hbx.below hB1
  have hXl : X < base := by rw [hbe]; exact hX1.lt
  have hX2 := hX1.below hB2
  rw [← hbe] at hC hL hB2
  have hb0 : w.heap.size ≤ base := by rw [hbe]; exact hB01.size
  have hb1 : base ≤ w2.heap.size := by rw [hbe]; exact hB2.size
  have hB12 := hB01.trans (hB2.mono hb0)
  have HM := Lib.hid (⟨_, _, _, _, _, _, hC, hL, hF⟩ : ∃ lw Nv Lv lv bs ns, Cr base w2 p c xb Nv Lv ts lv bs ns ∧ Li base w2 wb p xb lw tw ts (bs.map (·.b)) bs ∧ Few 0 ns)
  have HX2 := Lib.hid hX2
  clear hM hC hL hF hbe hB1 hB2 hX1 hX2 hB0 hB01 hbx
  unfold maxLen at hl
  go_wp2_with fail
  go_loopw [21] (fun vi wr => ∃ j : Nat, j ≤ len0 ∧ vi = .int .i64 j ∧ (∃ lw Nv Lv lv bs ns, Cr base wr p c xb Nv Lv ts lv bs ns ∧ Li base wr wb p xb lw tw ts (bs.map (·.b)) bs ∧ Few (min j 30) ns) ∧ Blk wr X 27 #[.string pk, .string pu] ∧ base ≤ wr.heap.size ∧ Below w.heap.size w wr) (fun vi wr => len0 - (intOf vi).toNat)
  case atStart => exact ⟨0, by omega, rfl, HM.out, HX2.out, hb1, hB12⟩
  case round =>
    clear HM hb1 hB12 HX2
    obtain ⟨j, hj, rfl, ⟨lw, Nv, Lv, lv, bs, ns, hC, hL, hF⟩, hXr, hbr, hBr⟩ := hrel
    by_cases hlt : j < len0
    · have hA := HP.out.below hBr
      rcases hA with ⟨_, h, _⟩ | ⟨x, rfl, hm1, hm2, hA⟩
      · omega
      obtain ⟨dd, na, ka, ta, i, q, l0, l1, l2, l3, hq, hcs⟩ := hA j hlt
      have c0 : wr.cell? (x.add (j * 7)) = some (.int .u8 dd) := hcs 0 _ rfl
      have c1 : wr.cell? ⟨(x.add (j * 7)).block, (x.add (j * 7)).off + 1, none⟩ = some (.int .u8 na) := hcs 1 _ rfl
      have c2 : wr.cell? ⟨(x.add (j * 7)).block, (x.add (j * 7)).off + 2, none⟩ = some (.int .u8 ka) := hcs 2 _ rfl
      have c3 : wr.cell? ⟨(x.add (j * 7)).block, (x.add (j * 7)).off + 3, none⟩ = some (.int .u8 ta) := hcs 3 _ rfl
      have c4 : wr.cell? ⟨(x.add (j * 7)).block, (x.add (j * 7)).off + 4, none⟩ = some (.int .i64 i) := hcs 4 _ rfl
      have c5 : wr.cell? ⟨(x.add (j * 7)).block, (x.add (j * 7)).off + 5, none⟩ = some (.string q.1) := hcs 5 _ rfl
      have c6 : wr.cell? ⟨(x.add (j * 7)).block, (x.add (j * 7)).off + 6, none⟩ = some (.string q.2) := hcs 6 _ rfl
      have L1 : (j : Int) < (len0 : Int) := by omega
      have L2 : IntKind.i64.wrap ((j : Int) + 1) = ((j + 1 : Nat) : Int) := by rw [IntWalk.i64_in _ (by omega)]; omega
      clear hcs hA
      have HCX := Lib.hid (And.intro hC (And.intro hL hF))
      have HBr := Lib.hid hBr
      have HXr := Lib.hid hXr
      clear hC hL hF hBr hXr
      go_upto_region 7 with (fail)
      have hBa := (Below.refl _ wr).alloc (Nat.le_refl _) (.cells #[.int .u8 dd, .int .u8 na, .int .u8 ka, .int .u8 ta, .int .i64 i, .string q.1, .string q.2] 29)
      have hbx := Blk.new wr 29 #[.int .u8 dd, .int .u8 na, .int .u8 ka, .int .u8 ta, .int .i64 i, .string q.1, .string q.2]
      have HBa := Lib.hid hBa
      clear c0 c1 c2 c3 c4 c5 c6 hBa
      generalize hWe : wr.alloc (.cells #[.int .u8 dd, .int .u8 na, .int .u8 ka, .int .u8 ta, .int .i64 i, .string q.1, .string q.2] 29) = W at *
      generalize hNe : wr.heap.size = N at *
      have d0 := hbx.cell 0
      have d1 := hbx.cell 1
      have d2 := hbx.cell 2
      have d3 := hbx.cell 3
      have d4 := hbx.cell 4
      have d5 := hbx.cell 5
      have d6 := hbx.cell 6
      simp only [List.getElem?_toArray, List.getElem?_cons_succ, List.getElem?_cons_zero] at d0 d1 d2 d3 d4 d5 d6
      obtain ⟨hC, hL, hF⟩ := HCX.out
      have hBa := HBa.out
      rw [← hNe] at hBa
      have hC1 := hC.below hBa
      have hL1 := hL.below hBa
      have hX1 := HXr.out.below hBa
      have hBw : Below w.heap.size w W := HBr.out.trans (hBa.mono HBr.out.size)
      have hbW : base ≤ W.heap.size := Nat.le_trans (hNe ▸ hbr) hBa.size
      have hpos := hF.1.1
      have HB := Lib.hid hBw
      have HX1 := Lib.hid hX1
      clear hC hL hBa hBw hbx HBa HCX HBr hWe hX1 HXr
      by_cases h30 : j < 30
      · have L5 : (j : Int) < 30 := by omega
        have hmin : min j 30 = j := by omega
        rw [hmin] at hF
        have hd := do_any base p c xb wb j dd na ka ta i q lw tw Nv Lv ts lv bs ns W hC1 hL1 hF hpos (by omega) hbW l0 l1 l2 l3 hq
        clear hC1 hL1 hF hmin
        go_wp2_with fail
        refine hd.mono ?_
        rintro e w3 ⟨rfl, lw', Nv', Lv', lv', bs', ns', hC', hL', hF', hB3⟩
        have hB4 := HB.out.trans (hB3.mono hb0)
        have hX3 : Blk w3 X 27 #[.string pk, .string pu] := (hB3.block X hXl).trans HX1.out
        have HX := Lib.hid (And.intro hC' (And.intro hL' (hF'.mono (m' := min (j + 1) 30) (by omega))))
        have HX3 := Lib.hid hX3
        have hb3 := Nat.le_trans hbW hB3.size
        clear hC' hL' hF' hB3 hd hX3
        go_wp2_with fail
        exact ⟨⟨j + 1, by omega, by go_num, ⟨lw', Nv', Lv', lv', bs', ns', HX.out⟩, HX3.out, hb3, hB4⟩, by simp [intOf]; omega⟩
      · have L5 : ¬ (j : Int) < 30 := by omega
        have HX := Lib.hid (And.intro hC1 (And.intro hL1 (hF.mono (m' := min (j + 1) 30) (by omega))))
        clear hC1 hL1 hF d0 d1 d2 d3 d4 d5 d6
        go_wp2_with fail
        exact ⟨⟨j + 1, by omega, by go_num, ⟨lw, Nv, Lv, lv, bs, ns, HX.out⟩, HX1.out, hbW, HB.out⟩, by simp [intOf]; omega⟩
    · have HT := Lib.hid (stays10_any (fun e w' => e = .returned (.bool true) ∧ Below w.heap.size w w') base p c xb wb X ii pk pu lw tw Nv Lv ts lv bs ns wr hC hL (hF.mono (by omega)) hXr hbr (fun w' hw => ⟨rfl, hBr.trans (hw.mono hBr.size)⟩))
      clear hC hL hF hBr HP hXr
      repeat (first | exact HT.out _ _ _ _ _ _ _ _ _ _ _ _ _ _ _ _ _ _ _ _ _ _ _ _ _ _ _ _ _ _ _ _ _ _ _ _ _ _ _ _ _ _ _ _ _ _ _ _ _ _ _ _ _ _ _ _ _ _ _ _ _ _ _ _ _ _ _ _ _ _ _ _ _ _ _ _ _ _ _ _ _ _ _ _ _ | go_step)

/-! ### THE ROW's STEP -/
set_option maxRecDepth 100000 in
theorem lifted (os : Os) (started : os.Started) (H : Type) (enc : TypeId × Value → H) :
    ReturnsInHanded {} Try.checked os 4 .any (Rows.nodeStaysSpec.pre6 enc Try.prog Try.f4 Rows.nodeStaysRow.domain false) (Rows.nodeStaysSpec.post enc Try.prog Try.f4 false true false false) := by
  refine returnsInHanded_of_change (C := Try.checked) own started (by kernel_rfl) Try.func4
    (ChangeSpec.witness6 (enc := enc) (C := Try.checked) false ⟨#[], #[.slice none 0 0, .int .i64 0, .agg #[.string ByteArray.empty, .string ByteArray.empty]], []⟩ 8 (by kernel_rfl) (by kernel_rfl) (by kernel_rfl) (by kernel_rfl)) ?_
  intro W base args ds gs before hval0 hW hcnd _
  have hval : ∀ (j : Nat) t v, Try.f4.params[j]? = some t → args[j]? = some v → Value.okWide Try.prog W .any base t v := hval0
  have hW' := hW
  obtain ⟨p, q, hA0, hV, rfl, hfz, hnd⟩ := hW
  have hA : DataW.TrodAll enc Try.prog W 0 (fun _ => true) true Try.f4.params.toList args.toList ds p := hA0
  rw [Try.params4] at hA hval
  obtain ⟨v0, vs0, d0, ds0, p0, q0, hargs, rfl, rfl, h0, r0⟩ := trodAll_cons hA
  obtain ⟨v1, vs1, d1, ds1, p1, q1, rfl, rfl, rfl, h1, r1⟩ := trodAll_cons r0
  obtain ⟨v2, vs2, d2, ds2, p2, q2, rfl, rfl, rfl, h2, r2⟩ := trodAll_cons r1
  obtain ⟨rfl, rfl, rfl⟩ := trodAll_nil r2
  obtain rfl : args = #[v0, v1, v2] := by cases args; simp_all
  obtain ⟨rfl, rfl⟩ := trodVars_none hV
  obtain ⟨a0, len0, cap0, rfl⟩ := okWide_slice Try.underlying22 (hval 0 22 v0 rfl rfl)
  have k0 := h0
  have lt0 : ∀ x ∈ p0, x.block < W.heap.size := by obtain ⟨m, hm⟩ := k0; exact DataW.trod_lt m _ _ _ hm
  have w0 := open_acts h0
  have k1 := h1
  have lt1 : ∀ x ∈ p1, x.block < W.heap.size := by obtain ⟨m, hm⟩ := k1; exact DataW.trod_lt m _ _ _ hm
  obtain ⟨a1, rfl, rfl, rfl, w1⟩ := open_int Try.underlying3 (hval 1 3 v1 rfl rfl) h1
  have k2 := h2
  have lt2 : ∀ x ∈ p2, x.block < W.heap.size := by obtain ⟨m, hm⟩ := k2; exact DataW.trod_lt m _ _ _ hm
  obtain ⟨x2, y2, rfl, s2⟩ := open_pair (hval 2 27 v2 rfl rfl) h2
  clear hA0 hval0
  refine (walk a0 len0 cap0 a1 x2 y2 W w0 w1).mono fun e W' ⟨he, bel⟩ => ?_
  subst he
  exact ⟨_, rfl, _, _, _, [], _, [], hW', trodAll_mk1 (shut_bool Try.underlying4 _), (trodAll_cons_mk (Below.trod laidOut (by kernel_rfl) (of_decide_eq_true (by kernel_rfl)) k0 bel lt0) (trodAll_cons_mk (Below.trod laidOut (by kernel_rfl) (of_decide_eq_true (by kernel_rfl)) k1 bel lt1) (trodAll_cons_mk (Below.trod laidOut (by kernel_rfl) (of_decide_eq_true (by kernel_rfl)) k2 bel lt2) trodAll_mk0))), rfl, bel.frame _, fun h => by cases h⟩

theorem over : Rows.nodeStaysRow.holds Try.pinned (OpenSpec.ofChange Rows.nodeStaysSpec) :=
  OpenClaim.holds_of_wide 4 Try.f4 rfl rfl rfl rfl rfl rfl rfl ⟨rfl, rfl, rfl, rfl, rfl⟩ rfl rfl rfl rfl rfl (by kernel_rfl) Try.func4 (by kernel_rfl)
    (of_decide_eq_true (by kernel_rfl)) (by unfold Func.isWrapper; first | (rw [if_pos (by decide +kernel)]; kernel_rfl) | (rw [if_neg (by decide +kernel)]; exact ⟨rfl, rfl⟩))
    (fun os started H enc _ => lifted os started H enc)

theorem proved : Rows.NodeStaysSaid := over
#print axioms proved
end Go.Proofs.Ytgldgdpgbfejmaa.nodeStays

