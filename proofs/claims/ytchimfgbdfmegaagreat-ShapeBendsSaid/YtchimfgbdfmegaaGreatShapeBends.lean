/- ShapeBends: for every hasher, every list of pairs, every place, pair and kind of change the law returns true: a trie that was changed in one place is canonical just if the document has it so. Conditions: none beyond the given statement. -/
import Derived.Test.YtchimfgbdfmegaaGreatRows
import Derived.WalkKit
import Derived.ProofKit
import Derived.OpenShut
import Derived.ShutString
import Derived.ChangeOld
import Derived.Below
import Derived.BigQuiet
import Derived.Deep.RegionHeld3
import Derived.Carry
import Derived.Lib.SmallJoins
import Derived.Test.YtchimfgbdfmegaaGreatGav
namespace Go.Proofs.YtchimfgbdfmegaaGreat.shapeBends
open Go.ChangeShapes Go.WideShapes Go.ChangeAt Go.RowKit Go.Joins Go.Lib
open Go.ChangeMaps (open_string shut_string)
set_option linter.unusedVariables false
set_option linter.unusedSimpArgs false
set_option maxRecDepth 100000
attribute [local irreducible] cnt

theorem own : ownKnob Tryz.prog.godebug = none := by kernel_rfl
theorem laidOut : laidOutB Tryz.prog = true := by kernel_rfl
theorem u8_nat {n : Int} (h : (Lit.int .u8 n).wf = true) : ∃ m : Nat, n = m ∧ m < 256 := by
  simp [Lit.wf, IntKind.min, IntKind.max, IntKind.signed, IntKind.bits] at h
  exact ⟨n.toNat, by omega, by omega⟩
theorem refTrieN (N : Nat → Prop) (k0 k1 m : Int) (A : Option Addr) (c : Nat) (xs : List Pr) (w : World) (h0 : U64 k0) (h1 : U64 k1) (hR : Rd w A xs) (hn : xs.length ≤ 700) (hz1 : ∀ x ∈ xs, x.1.size ≤ 1000) (hN : ∀ x, N x → x < w.heap.size) :
    Calls Tryz.prog 13 #[.agg #[.int .u64 k0, .int .u64 k1, .int .u64 m], .slice A xs.length c, .int .i64 0] w (RetB fun b w1 => RfN N w1 (treeOf (hz k0 k1 m) 13 0 xs) b ∧ Below w.heap.size w w1) := by
  refine Of_any _ k0 k1 m A c 0 xs w h0 h1 hR hn hz1 fun v w' hB hU => ?_
  refine (of_succN (hz k0 k1 m) (hz_lt k0 k1 m) 12 0 rfl (fun N A c xs bs v w h1 h2 h3 h4 h5 => of_anyN (hz k0 k1 m) (hz_lt k0 k1 m) 12 1 rfl N A c xs bs v w h1 h2 h3 h4 h5) N A c xs w.heap.size v w' (hR.below hB) (fun x h => Nat.lt_of_lt_of_le (hN x h) hB.size) hn hU).mono ?_
  rintro e w1 ⟨b, rfl, hT, hB1⟩
  exact ⟨b, rfl, b, rfl, TrieN.rf 13 N 0 b xs (fun h => by cases h) hT, hB.trans (hB1.mono hB.size)⟩
theorem rb_types {w : World} {T : Nat} {f : Nat → Value} (h : RB w T f) : ∀ x, x = T → ∀ t cs, Blk w x t cs → t ≠ 100 ∧ t ≠ 52 ∧ t ≠ 29 := by
  rintro x rfl t cs hb
  unfold RB at h
  unfold Blk at h hb
  rw [h] at hb
  simp at hb
  obtain ⟨-, rfl⟩ := hb
  decide
theorem rf_rb {N : Nat → Prop} {w : World} {P : Nat → Option Pr} {K : Nat → RT} {T : Nat} (h : RfN N w (.inner P K) T) : ∃ f, RB w T f := by
  obtain ⟨f, h1, _⟩ := h
  exact ⟨f, h1⟩
theorem rf_ne {N : Nat → Prop} {w : World} {P : Nat → Option Pr} {K : Nat → RT} {T g : Nat} {t : TypeId} {cs : Array Value} (h : RfN N w (.inner P K) T) (hb : Blk w g t cs) (ht : t ≠ 60) : g ≠ T := by
  rintro rfl
  obtain ⟨f, h1⟩ := rf_rb h
  unfold RB at h1
  unfold Blk at h1 hb
  rw [h1] at hb
  simp at hb
  exact ht hb.2.symm
theorem keepB {N8 : Nat} {p : Pr} {w w' : World} (h : w.cell? ⟨N8, 0, none⟩ = some (.string p.1) ∧ w.cell? ⟨N8, 1, none⟩ = some (.string p.2)) (hB : Below w.heap.size w w') : w'.cell? ⟨N8, 0, none⟩ = some (.string p.1) ∧ w'.cell? ⟨N8, 1, none⟩ = some (.string p.2) :=
  ⟨(hB.cell (World.block_lt_of_cell? w _ h.1)).trans h.1, (hB.cell (World.block_lt_of_cell? w _ h.2)).trans h.2⟩
theorem modify_push {α : Type} (a : Array α) (i : Nat) (f : α → α) (o : α) (h : i < a.size) : (a.modify i f).push o = (a.push o).modify i f := by
  apply Array.ext_getElem?
  intro k
  rw [Array.getElem?_push, Array.getElem?_modify, Array.getElem?_modify, Array.getElem?_push, Array.size_modify]
  by_cases hk : k = a.size
  · rw [if_pos hk, if_pos hk, if_neg (by omega)]
  · rw [if_neg hk, if_neg hk]
theorem set_alloc (w : World) (p : Addr) (u : Value) (o : Obj) (h : p.block < w.heap.size) : (w.setCell p u).alloc o = (w.alloc o).setCell p u := by
  unfold World.setCell World.alloc
  simp only [modify_push _ _ _ _ h]
theorem step_runAt {P : Program} {ops : Array Oper} {o : Oper} {a : Act} {w : World} {K : Act → World → Prop} {Q : Exit → Act → World → Prop} {E : Prop} (hgd : o.guard = none) (v : Value) (w' : World) (hrun : (execOp a.eval o).run P w = .ok (.value v) w') (h : K (a.put o.dst v) w') :
    if Region.wanted o (yielded ops a.tmps) = true then Oper.wp P o a w K Q else E := by
  rw [if_pos (by simp [Region.wanted, hgd])]
  unfold Oper.wp
  rw [hrun]
  exact h
theorem RootN.baseLe {base : Nat} {w : World} {P : Nat → Option Pr} {K : Nat → RT} {b : Nat} (h : RootN base w P K b) : base ≤ w.heap.size := by
  obtain ⟨ow, lo, S, pv, kv, hI, -⟩ := h
  have h1 := hI.footGe b (by simp [foot])
  have h2 := hI.footLt b (by simp [foot])
  omega

set_option maxHeartbeats 32000000 in
theorem walk (k0 k1 m : Int) (a1 : Option Addr) (len1 cap1 : Nat) (ps1 : List Pr) (i2 : Int) (x3 y3 : ByteArray) (i4 : Int) (w : World) (h0 : U64 k0) (h1 : U64 k1) (hp1 : ArgP w a1 len1 cap1 ps1) (hi2 : (Lit.int .u8 i2).wf = true) (hi4 : (Lit.int .u8 i4).wf = true) :
    Calls Tryz.prog 5 #[.agg #[.int .u64 k0, .int .u64 k1, .int .u64 m], .slice a1 len1 cap1, .int .u8 i2, .agg #[.string x3, .string y3], .int .u8 i4] w fun e w' => e = .returned (.bool true) ∧ Below w.heap.size w w' := by
  obtain ⟨iv, rfl, hiv⟩ := u8_nat hi2
  obtain ⟨kv, rfl, hkv⟩ := u8_nat hi4
  obtain ⟨q, hq⟩ : ∃ q : Pr, q = (x3, y3) := ⟨_, rfl⟩
  obtain rfl : x3 = q.1 := by rw [hq]
  obtain rfl : y3 = q.2 := by rw [hq]
  clear hq hi2 hi4
  have hB0 := ((Below.refl _ w).alloc (Nat.le_refl _) (.cells #[.int .u64 k0, .int .u64 k1, .int .u64 m] 26)).alloc (by simp) (.cells #[.string q.1, .string q.2] 52)
  have b1 := (Blk.new w 26 #[.int .u64 k0, .int .u64 k1, .int .u64 m]).alloc (.cells #[.string q.1, .string q.2] 52)
  have b2 := Blk.new (w.alloc (.cells #[.int .u64 k0, .int .u64 k1, .int .u64 m] 26)) 52 #[.string q.1, .string q.2]
  have e1 : (w.alloc (.cells #[.int .u64 k0, .int .u64 k1, .int .u64 m] 26)).heap.size = w.heap.size + 1 := by simp
  rw [e1] at b2
  clear e1
  have HF := Lib.hid (fun (w1 : World) (N5 b T nb : Nat) (t : RT) (n mm : Nat) (hB : Below w.heap.size w w1) hN hF hk hn hm hH => bend21_any (fun e w' => e = .returned (.bool true) ∧ Below w.heap.size w w') k0 k1 m w w1 h0 h1 N5 b T nb t n mm hB hN hF hk hn hm hH (fun w' h => ⟨rfl, h⟩))
  have HA1 := Lib.hid hp1
  clear hp1
  go_enter Tryz.func5, Tryz.ntmps5
  go_upto_region 1 with (fail)
  generalize (w.alloc (.cells #[.int .u64 k0, .int .u64 k1, .int .u64 m] 26)).alloc (.cells #[.string q.1, .string q.2] 52) = W at *
  obtain ⟨N8, hN8⟩ : ∃ N8, N8 = w.heap.size + 1 := ⟨_, rfl⟩
  rw [← hN8] at b2 ⊢
  obtain ⟨N5, hN5⟩ : ∃ N5, N5 = w.heap.size := ⟨_, rfl⟩
  rw [← hN5] at b1 ⊢
  have hN8b : w.heap.size ≤ N8 := by omega
  have hNN : N5 ≠ N8 := by omega
  clear hN5 hN8
  go_wp2_with fail
  refine (awake_any _).mono ?_
  rintro e w1 ⟨rfl, hB1⟩
  have b1 := b1.below hB1
  have b2 := b2.below hB1
  have hB := hB0.trans (hB1.mono hB0.size)
  clear hB1 hB0
  have s0 : w1.cell? ⟨N5, 0, none⟩ = some (.int .u64 k0) := b1.cell 0
  have s1 : w1.cell? ⟨N5, 1, none⟩ = some (.int .u64 k1) := b1.cell 1
  have s2 : w1.cell? ⟨N5, 2, none⟩ = some (.int .u64 m) := b1.cell 2
  have kt := trie_law (fun x => x = N8) k0 k1 m h0 h1 a1 len1 cap1 ps1 w1 (fun x hx => by subst hx; exact b2.lt) (HA1.out.below (hB.mono (Nat.le_refl _)))
  obtain ⟨hrX, hlX, hsX⟩ := trieL_good ps1
  unfold TrieP at kt
  go_wp2_with fail
  refine kt.mono ?_
  rintro e w2 ⟨bn, vx, rfl, hTn, hOx, hB2⟩
  have hB := hB.trans (hB2.mono hB.size)
  have b1 := b1.below hB2
  have b2 := b2.below hB2
  obtain ⟨Ax, cx, rfl, hX⟩ := hOx.rd
  generalize w1.heap.size = nb at *
  clear kt s0 s1 s2 hB2 hOx HA1
  have hmx : ∀ x ∈ trieL ps1, x.1.size ≤ 1000 := fun x hx => Nat.le_trans (hsX x hx).1 (by omega)
  have s0 : w2.cell? ⟨N5, 0, none⟩ = some (.int .u64 k0) := b1.cell 0
  have s1 : w2.cell? ⟨N5, 1, none⟩ = some (.int .u64 k1) := b1.cell 1
  have s2 : w2.cell? ⟨N5, 2, none⟩ = some (.int .u64 m) := b1.cell 2
  go_wp2_with fail
  refine (own_any k0 k1 m _).mono ?_
  rintro e w3 ⟨rfl, hB3⟩
  have kr := refTrieN (fun x => x < w3.heap.size) k0 k1 m Ax cx (trieL ps1) w3 h0 h1 (hX.below hB3) (by omega) hmx (fun x hx => hx)
  clear s0 s1 s2 hX
  go_wp2_with fail
  refine kr.mono ?_
  rintro e w4 ⟨T, rfl, hF, hB4⟩
  have hN8l := Nat.lt_of_lt_of_le b2.lt hB3.size
  have hTn := TX.below (TX.below hTn hB3) hB4
  have b1 := (b1.below hB3).below hB4
  have b2 := (b2.below hB3).below hB4
  have hB := hB.trans (hB3.mono hB.size)
  have hTge : w.heap.size ≤ T := by
    have h1 : ¬ T < w3.heap.size := by obtain ⟨f, _, h, _⟩ := hF; exact h
    have h2 := hB.size
    omega
  have hF := RfN.less (N' := fun x => x = N8) _ _ (fun x hx => .inl (by subst hx; exact hN8l)) _ hF
  clear hN8l
  have hB := hB.trans (hB4.mono hB.size)
  have hk := Known.tree (hz k0 k1 m) hrX hsX hlX
  generalize trieL ps1 = X at *
  clear kr hB3 hB4 hmx hrX hlX hsX
  obtain ⟨c, hc⟩ : ∃ c, c = iv % 32 := ⟨_, rfl⟩
  have hc32 : c < 32 := by rw [hc]; exact Nat.mod_lt _ (by decide)
  have L32 : (c : Int) < 32 := by omega
  have M1 : (iv : Int) % 32 = (c : Int) := by omega
  have M2 : IntKind.i64.wrap (c : Int) = (c : Int) := by rw [IntWalk.i64_in _ (by omega)]
  clear hc
  have a0 : w4.cell? ⟨N8, 0, none⟩ = some (.string q.1) := b2.cell 0
  have a1 : w4.cell? ⟨N8, 1, none⟩ = some (.string q.2) := b2.cell 1
  have kfew := few_any q w4
  have hp1 : (few40 q).1.size ≤ 40 := cut40_size _
  have hp2 : (few40 q).2.size ≤ 40 := cut40_size _
  generalize few40 q = p at *
  go_wp2_with fail
  refine kfew.mono ?_
  rintro e w5 ⟨rfl, hB5⟩
  have hB := hB.trans (hB5.mono hB.size)
  have hTn := TX.below hTn hB5
  have hF := RfN.below _ hF hB5
  have b1 := b1.below hB5
  have b2 := b2.below hB5
  clear a0 a1 hB5 kfew
  have a0 : w5.cell? ⟨N8, 0, none⟩ = some (.string q.1) := b2.cell 0
  have a1 : w5.cell? ⟨N8, 1, none⟩ = some (.string q.2) := b2.cell 1
  have f0 := b2.frozen 0
  have f1 := b2.frozen 1
  have s1 : (w5.setCell ⟨N8, 0, none⟩ (.string p.1)).cell? ⟨N8, 1, none⟩ = some (.string q.2) := (b2.set_ 0 (.string p.1)).cell 1
  have s2 := (b2.set_ 0 (.string p.1)).frozen 1
  have hk2 := Keep.two w5 N8 0 1 (.string p.1) (.string p.2)
  have hP2 : Blk ((w5.setCell ⟨N8, 0, none⟩ (.string p.1)).setCell ⟨N8, 1, none⟩ (.string p.2)) N8 52 #[.string p.1, .string p.2] := (b2.set_ 0 (.string p.1)).set_ 1 (.string p.2)
  have hTn2 := TX.keepG (G := fun x => x = N8) hTn ((KeepF.ofKeep hk2).mono fun x hx => .inl (List.mem_singleton.1 hx)) (fun x hx => hx) (fun x hx cs hc => by subst hx; have h2 := b2.symm.trans hc; simp at h2)
  have hF2 := RfN.less (N' := fun _ => False) _ _ (fun x hx => hx.elim) _ (RfN.keepN hk2.all.size _ _ (fun x hx hn => hk2.block x hx (by simpa using hn)) _ hF)
  have b12 := Blk.keep b1 hk2 (by simp; exact hNN)
  have hB2 := (hB.setCell (p := ⟨N8, 0, none⟩) hN8b (.string p.1)).setCell (p := ⟨N8, 1, none⟩) hN8b (.string p.2)
  have hR := Trie.root hTn2
  have HR := Lib.hid hR
  have HF2 := Lib.hid hF2
  have HP2 := Lib.hid hP2
  have HB2 := Lib.hid hB2
  have HH := Lib.hid b12
  have HK := Lib.hid hk
  clear hTn hTn2 hF hF2 b1 b12 b2 hP2 hB hB2 hk2 hR hk
  go_upto_region 7 with (fail)
  have hR := HR.out
  have hF0 := HF2.out
  have hP := HP2.out
  have hB := HB2.out
  have hH := HH.out
  have hk := HK.out
  clear HR HF2 HP2 HB2 HH HK a0 a1 f0 f1 s1 s2
  generalize (w5.setCell ⟨N8, 0, none⟩ (.string p.1)).setCell ⟨N8, 1, none⟩ (.string p.2) = W6 at *
  change RfN (fun _ => False) W6 (.inner (fun c => onep (sub (hz k0 k1 m) 0 c X)) (fun c => match many (sub (hz k0 k1 m) 0 c X) with | none => .no | some qs => treeOf (hz k0 k1 m) 12 (0 + 1) qs)) T at hF0
  change Known (.inner (fun c => onep (sub (hz k0 k1 m) 0 c X)) (fun c => match many (sub (hz k0 k1 m) 0 c X) with | none => .no | some qs => treeOf (hz k0 k1 m) 12 (0 + 1) qs)) 30 7000 at hk
  generalize (fun c => onep (sub (hz k0 k1 m) 0 c X)) = Pf at *
  generalize (fun c => match many (sub (hz k0 k1 m) 0 c X) with | none => RT.no | some qs => treeOf (hz k0 k1 m) 12 (0 + 1) qs) = Kf at *
  have q0 : W6.cell? ⟨N8, 0, none⟩ = some (.string p.1) := hP.cell 0
  have q1 : W6.cell? ⟨N8, 1, none⟩ = some (.string p.2) := hP.cell 1
  obtain ⟨d, hd⟩ : ∃ d, d = kv % 4 := ⟨_, rfl⟩
  have hd4 : d < 4 := by rw [hd]; exact Nat.mod_lt _ (by decide)
  have M4 : (kv : Int) % 4 = (d : Int) := by omega
  clear hd
  match d, hd4 with
  | 0, hd4 =>
    have kc := hR.setPair p c hc32 (RootN.baseLe hR)
    unfold at0 Pr.v at kc
    clear hR hd4
    go_wp2_with fail
    refine kc.mono ?_
    rintro e w7 ⟨b1, rfl, hR1, hB7⟩
    have hF := RfN.below _ hF0 hB7
    have hP := hP.below hB7
    have hH := hH.below hB7
    have hB := hB.trans (hB7.mono hB.size)
    clear kc hF0 hB7 q0 q1
    have q0 : w7.cell? ⟨N8, 0, none⟩ = some (.string p.1) := hP.cell 0
    have q1 : w7.cell? ⟨N8, 1, none⟩ = some (.string p.2) := hP.cell 1
    have hF0' := hF
    obtain ⟨f, hRB⟩ := rf_rb hF
    have z2 := hRB.cell (2 + c) (by omega)
    have y2 := hRB.frozen (2 + c)
    have z3 := hRB.cell (34 + c * 2) (by omega)
    have y3 := hRB.frozen (34 + c * 2)
    have z4 := hRB.cell (34 + c * 2 + 1) (by omega)
    have y4 := hRB.frozen (34 + c * 2 + 1)
    have z5 := hRB.cell (98 + c) (by omega)
    have y5 := hRB.frozen (98 + c)
    have hNT := rf_ne hF hH (by decide)
    have hk2 : Keep [T] w7 (((w7.setCell ⟨T, 2 + c, none⟩ (.int .i64 1)).setCell ⟨T, 34 + c * 2, none⟩ (.string p.1)).setCell ⟨T, 34 + c * 2 + 1, none⟩ (.string p.2)) := ((((Keep.refl [T] w7).setCell (p := ⟨T, 2 + c, none⟩) (by simp) (.int .i64 1)).setCell (p := ⟨T, 34 + c * 2, none⟩) (by simp) (.string p.1)).setCell (p := ⟨T, 34 + c * 2 + 1, none⟩) (by simp) (.string p.2))
    have hF2 : RfN (fun _ => False) (((w7.setCell ⟨T, 2 + c, none⟩ (.int .i64 1)).setCell ⟨T, 34 + c * 2, none⟩ (.string p.1)).setCell ⟨T, 34 + c * 2 + 1, none⟩ (.string p.2)) _ T := hF.setPair p hc32
    have hN2 := NdR.keepF (KeepF.ofKeep hk2) (fun x hx => rb_types hRB x (List.mem_singleton.1 hx)) _ _ hR1.node
    have hH2 := Blk.keep hH hk2 (by simp; exact hNT)
    have hB2 : Below w.heap.size w (((w7.setCell ⟨T, 2 + c, none⟩ (.int .i64 1)).setCell ⟨T, 34 + c * 2, none⟩ (.string p.1)).setCell ⟨T, 34 + c * 2 + 1, none⟩ (.string p.2)) := (((hB.setCell (p := ⟨T, 2 + c, none⟩) hTge (.int .i64 1)).setCell (p := ⟨T, 34 + c * 2, none⟩) hTge (.string p.1)).setCell (p := ⟨T, 34 + c * 2 + 1, none⟩) hTge (.string p.2))
    have hkn := hk.set (c := c) (x := some p) Known.no (.inr rfl) (fun p' e => by obtain rfl := Option.some.inj e; exact ⟨hp1, hp2⟩)
    clear hk2 hRB hR1 hF hB hH hk
    have hdr := (Below.refl (((w7.setCell ⟨T, 2 + c, none⟩ (.int .i64 1)).setCell ⟨T, 34 + c * 2, none⟩ (.string p.1)).setCell ⟨T, 34 + c * 2 + 1, none⟩ (.string p.2)).heap.size (((w7.setCell ⟨T, 2 + c, none⟩ (.int .i64 1)).setCell ⟨T, 34 + c * 2, none⟩ (.string p.1)).setCell ⟨T, 34 + c * 2 + 1, none⟩ (.string p.2))).drew
    have HF2 := Lib.hid (RfN.below _ hF2 hdr)
    have HN2 := Lib.hid (NdR.below _ hN2 hdr)
    have HH2 := Lib.hid (hH2.below hdr)
    have HB2 := Lib.hid hB2.drew
    clear hdr hF2 hN2 hH2 hB2
    have hPT := rf_ne hF0' hP (by decide)
    have hS8 : (w7.drew.setCell ⟨T, 2 + c, none⟩ (.int .i64 1)).cell? ⟨N8, 0, none⟩ = some (.string p.1) ∧ (w7.drew.setCell ⟨T, 2 + c, none⟩ (.int .i64 1)).cell? ⟨N8, 1, none⟩ = some (.string p.2) := by
      have h9 := (hP.below (Below.refl w7.heap.size w7).drew).far (p := ⟨T, 2 + c, none⟩) hPT (.int .i64 1)
      exact ⟨h9.cell 0, h9.cell 1⟩
    clear hF0' hPT
    go_upto_region 14 with (fail)
    refine wp_region_late (S := fun w' => w'.cell? ⟨N8, 0, none⟩ = some (.string p.1) ∧ w'.cell? ⟨N8, 1, none⟩ = some (.string p.2)) (st := 12) (by kernel_rfl) ?_
    have hS : w7.drew.cell? ⟨N8, 0, none⟩ = some (.string p.1) ∧ w7.drew.cell? ⟨N8, 1, none⟩ = some (.string p.2) := ⟨q0, q1⟩
    refine wpAnyL_take0 (i := 0) (oi := { dst := some 72, op := Go.Op.move (Go.Operand.tmp 13), type := 37, pos := "law.go:127", after := #[], guard := none }) (v := .pointer (some ⟨T, 0, none⟩)) rfl (by kernel_rfl) (by kernel_rfl) (by kernel_rfl) (by kernel_rfl) (fun _ _ _ h => h) hS (Or.inl ⟨by rfl, fun w hSw => ?_⟩) ?_
    · go_split_ands
      go_simp
    try simp only [Act.put, List.setIfInBounds_toArray, List.set_cons_zero, List.set_cons_succ]
    refine wpAnyL_take0 (i := 1) (oi := { dst := some 73, op := Go.Op.move (Go.Operand.tmp 14), type := 3, pos := "law.go:127", after := #[], guard := none }) (v := .int .i64 c) rfl (by kernel_rfl) (by kernel_rfl) (by kernel_rfl) (by kernel_rfl) (fun _ _ _ h => h) hS (Or.inl ⟨by rfl, fun w hSw => ?_⟩) ?_
    · go_split_ands
      go_simp
    try simp only [Act.put, List.setIfInBounds_toArray, List.set_cons_zero, List.set_cons_succ]
    refine wpAnyL_take0 (i := 2) (oi := { dst := some 74, op := Go.Op.move (Go.Operand.tmp 13), type := 37, pos := "law.go:127", after := #[{ on := 8, ground := Go.Ground.gcOnly Go.Departure.lateStores }], guard := none }) (v := .pointer (some ⟨T, 0, none⟩)) rfl (by kernel_rfl) (by kernel_rfl) (by kernel_rfl) (by kernel_rfl) (fun _ _ _ h => h) hS (Or.inl ⟨by rfl, fun w hSw => ?_⟩) ?_
    · go_split_ands
      go_simp
    try simp only [Act.put, List.setIfInBounds_toArray, List.set_cons_zero, List.set_cons_succ]
    refine wpAnyL_take0 (i := 3) (oi := { dst := some 75, op := Go.Op.move (Go.Operand.tmp 14), type := 3, pos := "law.go:127", after := #[{ on := 8, ground := Go.Ground.gcOnly Go.Departure.lateStores }], guard := none }) (v := .int .i64 c) rfl (by kernel_rfl) (by kernel_rfl) (by kernel_rfl) (by kernel_rfl) (fun _ _ _ h => h) hS (Or.inl ⟨by rfl, fun w hSw => ?_⟩) ?_
    · go_split_ands
      go_simp
    try simp only [Act.put, List.setIfInBounds_toArray, List.set_cons_zero, List.set_cons_succ]
    refine wpAnyL_take (i := 4) (oi := { dst := some 76, op := Go.Op.load 52 (Go.Operand.tmp 8), type := 52, pos := "law.go:127", after := #[{ on := 8, ground := Go.Ground.gcOnly Go.Departure.lateStores }], guard := none }) (v := .agg #[.string p.1, .string p.2]) rfl (by kernel_rfl) (by kernel_rfl) (by kernel_rfl) (by kernel_rfl) (fun _ _ _ h => h) hS (Or.inl ⟨by rfl, fun w hSw => ?_⟩) ?_
    · go_split_ands
      go_simp
    try simp only [Act.put, List.setIfInBounds_toArray, List.set_cons_zero, List.set_cons_succ]
    refine wpAnyL_take0 (i := 5) (oi := { dst := some 77, op := Go.Op.nilCheck (Go.Operand.tmp 72), type := 0, pos := "law.go:127", after := #[{ on := 0, ground := Go.Ground.data }], guard := none }) (v := .pointer (some ⟨T, 0, none⟩)) rfl (by kernel_rfl) (by kernel_rfl) (by kernel_rfl) (by kernel_rfl) (fun _ _ _ h => h) hS (Or.inl ⟨by rfl, fun w hSw => ?_⟩) ?_
    · go_split_ands
      go_simp
    try simp only [Act.put, List.setIfInBounds_toArray, List.set_cons_zero, List.set_cons_succ]
    refine wpAnyL_take0 (i := 6) (oi := { dst := some 78, op := Go.Op.fieldAddr 60 (Go.Operand.tmp 77) 2, type := 0, pos := "law.go:127", after := #[{ on := 5, ground := Go.Ground.data }], guard := none }) (v := .pointer (some ⟨T, 2, none⟩)) rfl (by kernel_rfl) (by kernel_rfl) (by kernel_rfl) (by kernel_rfl) (fun _ _ _ h => h) hS (Or.inl ⟨by rfl, fun w hSw => ?_⟩) ?_
    · go_split_ands
      go_simp
    try simp only [Act.put, List.setIfInBounds_toArray, List.set_cons_zero, List.set_cons_succ]
    refine wpAnyL_take0 (i := 9) (oi := { dst := some 80, op := Go.Op.nilCheck (Go.Operand.tmp 74), type := 0, pos := "law.go:127", after := #[{ on := 2, ground := Go.Ground.data }], guard := none }) (v := .pointer (some ⟨T, 0, none⟩)) rfl (by kernel_rfl) (by kernel_rfl) (by kernel_rfl) (by kernel_rfl) (fun _ _ _ h => h) hS (Or.inl ⟨by rfl, fun w hSw => ?_⟩) ?_
    · go_split_ands
      go_simp
    try simp only [Act.put, List.setIfInBounds_toArray, List.set_cons_zero, List.set_cons_succ]
    refine wpAnyL_take0 (i := 10) (oi := { dst := some 81, op := Go.Op.fieldAddr 60 (Go.Operand.tmp 80) 3, type := 0, pos := "law.go:127", after := #[{ on := 9, ground := Go.Ground.data }], guard := none }) (v := .pointer (some ⟨T, 34, none⟩)) rfl (by kernel_rfl) (by kernel_rfl) (by kernel_rfl) (by kernel_rfl) (fun _ _ _ h => h) hS (Or.inl ⟨by rfl, fun w hSw => ?_⟩) ?_
    · go_split_ands
      go_simp
    try simp only [Act.put, List.setIfInBounds_toArray, List.set_cons_zero, List.set_cons_succ]
    refine wpAnyL_ready (rs := [7]) (by kernel_rfl) (by simp) ?_
    refine AllReadyL.cons (o := { dst := some 79, op := Go.Op.indexAddr 56 (Go.Operand.tmp 78) (Go.Operand.tmp 73), type := 0, pos := "law.go:127", after := #[{ on := 6, ground := Go.Ground.data }, { on := 1, ground := Go.Ground.data }, { on := 0, ground := Go.Ground.phase }, { on := 1, ground := Go.Ground.phase }, { on := 2, ground := Go.Ground.textOnly Go.Departure.lateStores }, { on := 3, ground := Go.Ground.textOnly Go.Departure.lateStores }, { on := 4, ground := Go.Ground.textOnly Go.Departure.lateStores }], guard := none }) rfl (fun K hK => ?_) AllReadyL.nil
    go_simp
    refine hK.out _ _ (fun _ => hS) ?_
    clear hK K
    try simp only [Act.put, List.setIfInBounds_toArray, List.set_cons_zero, List.set_cons_succ]
    refine wpAnyL_ready (rs := [8]) (by kernel_rfl) (by simp) ?_
    refine AllReadyL.cons (o := { dst := none, op := Go.Op.store 3 (Go.Operand.tmp 79) (Go.Operand.const (Go.Value.int Go.IntKind.i64 1)), type := 0, pos := "law.go:127", after := #[{ on := 7, ground := Go.Ground.data }, { on := 0, ground := Go.Ground.phase }, { on := 1, ground := Go.Ground.phase }, { on := 2, ground := Go.Ground.textOnly Go.Departure.lateStores }, { on := 3, ground := Go.Ground.textOnly Go.Departure.lateStores }, { on := 4, ground := Go.Ground.textOnly Go.Departure.lateStores }], guard := none }) rfl (fun K hK => ?_) AllReadyL.nil
    go_simp
    refine hK.out _ _ (fun _ => hS8) ?_
    clear hK K
    try simp only [Act.put, List.setIfInBounds_toArray, List.set_cons_zero, List.set_cons_succ]
    refine wpAnyL_ready (rs := [11]) (by kernel_rfl) (by simp) ?_
    refine AllReadyL.cons (o := { dst := some 82, op := Go.Op.indexAddr 57 (Go.Operand.tmp 81) (Go.Operand.tmp 75), type := 0, pos := "law.go:127", after := #[{ on := 10, ground := Go.Ground.data }, { on := 3, ground := Go.Ground.data }, { on := 0, ground := Go.Ground.phase }, { on := 1, ground := Go.Ground.phase }, { on := 2, ground := Go.Ground.phase }, { on := 3, ground := Go.Ground.phase }, { on := 4, ground := Go.Ground.phase }, { on := 5, ground := Go.Ground.phase }, { on := 6, ground := Go.Ground.phase }, { on := 7, ground := Go.Ground.phase }, { on := 8, ground := Go.Ground.phase }], guard := none }) rfl (fun K hK => ?_) AllReadyL.nil
    go_simp
    refine hK.out _ _ (fun _ => hS8) ?_
    clear hK K
    try simp only [Act.put, List.setIfInBounds_toArray, List.set_cons_zero, List.set_cons_succ]
    refine wpAnyL_ready (rs := [12]) (by kernel_rfl) (by simp) ?_
    refine AllReadyL.cons (o := { dst := none, op := Go.Op.store 55 (Go.Operand.tmp 82) (Go.Operand.tmp 76), type := 0, pos := "law.go:127", after := #[{ on := 11, ground := Go.Ground.data }, { on := 4, ground := Go.Ground.data }, { on := 8, ground := Go.Ground.chain }, { on := 0, ground := Go.Ground.phase }, { on := 1, ground := Go.Ground.phase }, { on := 2, ground := Go.Ground.phase }, { on := 3, ground := Go.Ground.phase }, { on := 4, ground := Go.Ground.phase }, { on := 5, ground := Go.Ground.phase }, { on := 6, ground := Go.Ground.phase }, { on := 7, ground := Go.Ground.phase }, { on := 8, ground := Go.Ground.phase }], guard := none }) rfl (fun K hK => ?_) AllReadyL.nil
    go_simp
    refine hK.out _ _ (late_no (by kernel_rfl)) ?_
    clear hK K
    try simp only [Act.put, List.setIfInBounds_toArray, List.set_cons_zero, List.set_cons_succ]
    refine wpAnyL_done (by kernel_rfl) ?_ _
    clear z2 y2 z3 y3 z4 y4 z5 y5 q0 q1 hS hS8 hP
    have HFF := Lib.hid (HF.out _ N5 b1 T nb _ _ _ HB2.out HN2.out HF2.out hkn (by omega) (by omega) HH2.out)
    clear HF HB2 HN2 HF2 HH2
    try dsimp only
    repeat (first | exact HFF.out _ _ _ _ _ _ _ _ _ _ _ _ _ _ _ _ _ _ _ _ _ _ _ _ _ _ _ _ _ _ _ _ _ _ _ _ _ _ _ _ _ _ _ _ _ _ _ _ _ _ _ _ _ _ _ _ _ _ _ _ _ _ _ _ _ _ _ _ _ _ _ _ _ _ _ _ _ _ _ _ _ _ _ _ _ _ _ _ _ _ _ _ _ _ _ _ _ _ _ _ _ _ _ _ _ _ _ _ _ _ _ _ _ _ _ _ _ _ _ _ _ _ _ | go_step)

  | 1, hd4 =>
    have kc := hR.clear c hc32 (RootN.baseLe hR)
    unfold at0 at kc
    clear hR hd4 q0 q1 hP
    go_wp2_with fail
    refine kc.mono ?_
    rintro e w7 ⟨b1, rfl, hR1, hB7⟩
    have hF := RfN.below _ hF0 hB7
    have hH := hH.below hB7
    have hB := hB.trans (hB7.mono hB.size)
    clear kc hF0 hB7
    obtain ⟨f, hRB⟩ := rf_rb hF
    have z2 := hRB.cell (2 + c) (by omega)
    have y2 := hRB.frozen (2 + c)
    have z3 := hRB.cell (34 + c * 2) (by omega)
    have y3 := hRB.frozen (34 + c * 2)
    have z4 := hRB.cell (34 + c * 2 + 1) (by omega)
    have y4 := hRB.frozen (34 + c * 2 + 1)
    have z5 := hRB.cell (98 + c) (by omega)
    have y5 := hRB.frozen (98 + c)
    have hNT := rf_ne hF hH (by decide)
    clear z3 y3 z4 y4 z5 y5
    have hk2 : Keep [T] w7 (w7.setCell ⟨T, 2 + c, none⟩ (.int .i64 0)) := ((Keep.refl [T] w7).setCell (p := ⟨T, 2 + c, none⟩) (by simp) (.int .i64 0))
    have hF2 : RfN (fun _ => False) (w7.setCell ⟨T, 2 + c, none⟩ (.int .i64 0)) _ T := hF.clear hc32
    have hN2 := NdR.keepF (KeepF.ofKeep hk2) (fun x hx => rb_types hRB x (List.mem_singleton.1 hx)) _ _ hR1.node
    have hH2 := Blk.keep hH hk2 (by simp; exact hNT)
    have hB2 : Below w.heap.size w (w7.setCell ⟨T, 2 + c, none⟩ (.int .i64 0)) := (hB.setCell (p := ⟨T, 2 + c, none⟩) hTge (.int .i64 0))
    have hkn := hk.set (c := c) (x := none) Known.no (.inr rfl) (fun p' e => by cases e)
    clear hk2 hRB hR1 hF hB hH hk
    have HF2 := Lib.hid hF2
    have HN2 := Lib.hid hN2
    have HH2 := Lib.hid hH2
    have HB2 := Lib.hid hB2
    clear hF2 hN2 hH2 hB2
    have HFF := Lib.hid (HF.out _ N5 b1 T nb _ _ _ HB2.out HN2.out HF2.out hkn (by omega) (by omega) HH2.out)
    clear HF HB2 HN2 HF2 HH2
    try dsimp only
    repeat (first | exact HFF.out _ _ _ _ _ _ _ _ _ _ _ _ _ _ _ _ _ _ _ _ _ _ _ _ _ _ _ _ _ _ _ _ _ _ _ _ _ _ _ _ _ _ _ _ _ _ _ _ _ _ _ _ _ _ _ _ _ _ _ _ _ _ _ _ _ _ _ _ _ _ _ _ _ _ _ _ _ _ _ _ _ _ _ _ _ _ _ _ _ _ _ _ _ _ _ _ _ _ _ _ _ _ _ _ _ _ _ _ _ _ _ _ _ _ _ _ _ _ _ _ _ _ _ | go_step)

  | 2, hd4 =>
    have kn := RootN.new (base := nb) (w := W6) (RootN.baseLe hR)
    unfold at0 at kn
    clear hd4 q0 q1 hP
    go_wp2_with fail
    refine kn.mono ?_
    rintro e w7 ⟨bk, rfl, hKd, hB7⟩
    have hF := RfN.below _ hF0 hB7
    have hH := hH.below hB7
    have hB := hB.trans (hB7.mono hB.size)
    have hR := RootN.below hR hB7
    have kc := hR.setKid (.inner (fun _ => none) (fun _ => .no)) bk c hc32 (RootN.baseLe hR) rfl hKd.node
    unfold at0 at kc
    clear kn hF0 hB7 hKd hR
    go_wp2_with fail
    refine kc.mono ?_
    rintro e w8 ⟨b1, rfl, hR1, hB8⟩
    have hdr := (Below.refl w8.heap.size w8).drew
    have hF := RfN.below _ (RfN.below _ hF hB8) hdr
    have hH := (hH.below hB8).below hdr
    have hB := (hB.trans (hB8.mono hB.size)).drew
    have hR1 := RootN.below hR1 hdr
    clear kc hB8 hdr
    go_upto_region 20 with (fail)
    refine wp_region_late (S := fun w' => True) (st := 9) (by kernel_rfl) ?_
    have hS : True := trivial
    generalize w8.drew = V at *
    have hTl := RfN.lt hF
    have hBA := (Below.refl _ V).alloc (Nat.le_refl _) (.cells (rcs (rb0 false (.slice none 0 0))).toArray 60)
    obtain ⟨f, hRB⟩ := rf_rb hF
    have z2 := hRB.cell (2 + c) (by omega)
    have y2 := hRB.frozen (2 + c)
    have z5 := hRB.cell (98 + c) (by omega)
    have y5 := hRB.frozen (98 + c)
    have hKn := RfN.new (w := V) (N := fun x => False ∨ x = T) (fun x hx => by rcases hx with h | rfl; exact h.elim; exact hTl)
    have hFA := RfN.below _ hF hBA
    have hRA := hRB.below hBA
    have z2A := hRA.cell (2 + c) (by omega)
    have y2A := hRA.frozen (2 + c)
    have z5A := hRA.cell (98 + c) (by omega)
    have y5A := hRA.frozen (98 + c)
    have hNT := rf_ne hF hH (by decide)
    have hHA := hH.below hBA
    have hBB := hB.trans (hBA.mono hB.size)
    have hR1 := RootN.below hR1 hBA
    have hk2 : Keep [T] (V.alloc (.cells (rcs (rb0 false (.slice none 0 0))).toArray 60)) (((V.alloc (.cells (rcs (rb0 false (.slice none 0 0))).toArray 60)).setCell ⟨T, 2 + c, none⟩ (.int .i64 2)).setCell ⟨T, 98 + c, none⟩ (.pointer (some ⟨V.heap.size, 0, none⟩))) := ((Keep.refl [T] (V.alloc (.cells (rcs (rb0 false (.slice none 0 0))).toArray 60))).setCell (p := ⟨T, 2 + c, none⟩) (by simp) (.int .i64 2)).setCell (p := ⟨T, 98 + c, none⟩) (by simp) (.pointer (some ⟨V.heap.size, 0, none⟩))
    have hEq : (((V.setCell ⟨T, 2 + c, none⟩ (.int .i64 2)).setCell ⟨T, 98 + c, none⟩ (.pointer (some ⟨V.heap.size, 0, none⟩))).alloc (.cells (rcs (rb0 false (.slice none 0 0))).toArray 60)) = (((V.alloc (.cells (rcs (rb0 false (.slice none 0 0))).toArray 60)).setCell ⟨T, 2 + c, none⟩ (.int .i64 2)).setCell ⟨T, 98 + c, none⟩ (.pointer (some ⟨V.heap.size, 0, none⟩))) := by
      rw [set_alloc _ _ _ _ (by simpa using hTl), set_alloc _ _ _ _ hTl]
    have hF2 := hFA.setKid hc32 hKn
    have hN2 := NdR.keepF (KeepF.ofKeep hk2) (fun x hx => rb_types hRA x (List.mem_singleton.1 hx)) _ _ hR1.node
    have hH2 := Blk.keep hHA hk2 (by simp; exact hNT)
    have hB2 : Below w.heap.size w (((V.alloc (.cells (rcs (rb0 false (.slice none 0 0))).toArray 60)).setCell ⟨T, 2 + c, none⟩ (.int .i64 2)).setCell ⟨T, 98 + c, none⟩ (.pointer (some ⟨V.heap.size, 0, none⟩))) := ((hBB.setCell (p := ⟨T, 2 + c, none⟩) hTge (.int .i64 2)).setCell (p := ⟨T, 98 + c, none⟩) hTge (.pointer (some ⟨V.heap.size, 0, none⟩)))
    rw [← hEq] at hF2 hN2 hH2 hB2
    have HF2 := Lib.hid hF2
    have HN2 := Lib.hid hN2
    have HH2 := Lib.hid hH2
    have HB2 := Lib.hid hB2
    clear hF2 hN2 hH2 hB2 hEq
    have hkn := hk.set (c := c) (x := none) Known.empty (.inl rfl) (fun p' e => by cases e)
    have hsz : (V.setCell ⟨T, 2 + c, none⟩ (.int .i64 2)).heap.size = V.heap.size := by simp
    clear hk2 hKn hFA hRB hRA hHA hBB hR1 hF hH hB hk hBA z2A y2A z5A y5A
    refine wpAnyL_take0 (i := 0) (oi := { dst := some 99, op := Go.Op.move (Go.Operand.tmp 13), type := 37, pos := "law.go:133", after := #[], guard := none }) (v := .pointer (some ⟨T, 0, none⟩)) rfl (by kernel_rfl) (by kernel_rfl) (by kernel_rfl) (by kernel_rfl) (fun _ _ _ h => h) hS (Or.inl ⟨by rfl, fun w hSw => ?_⟩) ?_
    · go_split_ands
      go_simp
    try simp only [Act.put, List.setIfInBounds_toArray, List.set_cons_zero, List.set_cons_succ]
    refine wpAnyL_take0 (i := 1) (oi := { dst := some 100, op := Go.Op.move (Go.Operand.tmp 14), type := 3, pos := "law.go:133", after := #[], guard := none }) (v := .int .i64 c) rfl (by kernel_rfl) (by kernel_rfl) (by kernel_rfl) (by kernel_rfl) (fun _ _ _ h => h) hS (Or.inl ⟨by rfl, fun w hSw => ?_⟩) ?_
    · go_split_ands
      go_simp
    try simp only [Act.put, List.setIfInBounds_toArray, List.set_cons_zero, List.set_cons_succ]
    refine wpAnyL_take0 (i := 2) (oi := { dst := some 101, op := Go.Op.move (Go.Operand.tmp 13), type := 37, pos := "law.go:133", after := #[{ on := 9, ground := Go.Ground.gcOnly Go.Departure.lateStores }], guard := none }) (v := .pointer (some ⟨T, 0, none⟩)) rfl (by kernel_rfl) (by kernel_rfl) (by kernel_rfl) (by kernel_rfl) (fun _ _ _ h => h) hS (Or.inl ⟨by rfl, fun w hSw => ?_⟩) ?_
    · go_split_ands
      go_simp
    try simp only [Act.put, List.setIfInBounds_toArray, List.set_cons_zero, List.set_cons_succ]
    refine wpAnyL_take0 (i := 3) (oi := { dst := some 102, op := Go.Op.move (Go.Operand.tmp 14), type := 3, pos := "law.go:133", after := #[{ on := 9, ground := Go.Ground.gcOnly Go.Departure.lateStores }], guard := none }) (v := .int .i64 c) rfl (by kernel_rfl) (by kernel_rfl) (by kernel_rfl) (by kernel_rfl) (fun _ _ _ h => h) hS (Or.inl ⟨by rfl, fun w hSw => ?_⟩) ?_
    · go_split_ands
      go_simp
    try simp only [Act.put, List.setIfInBounds_toArray, List.set_cons_zero, List.set_cons_succ]
    refine wpAnyL_take0 (i := 4) (oi := { dst := some 103, op := Go.Op.build 60 #[], type := 60, pos := "law.go:133", after := #[], guard := none }) (v := .agg (rcs (rb0 false (.slice none 0 0))).toArray) rfl (by kernel_rfl) (by kernel_rfl) (by kernel_rfl) (by kernel_rfl) (fun _ _ _ h => h) hS (Or.inl ⟨by rfl, fun w hSw => ?_⟩) ?_
    · exact build133n _ _ _ rfl
    try simp only [Act.put, List.setIfInBounds_toArray, List.set_cons_zero, List.set_cons_succ]
    refine wpAnyL_take0 (i := 6) (oi := { dst := some 105, op := Go.Op.nilCheck (Go.Operand.tmp 99), type := 0, pos := "law.go:133", after := #[{ on := 0, ground := Go.Ground.data }], guard := none }) (v := .pointer (some ⟨T, 0, none⟩)) rfl (by kernel_rfl) (by kernel_rfl) (by kernel_rfl) (by kernel_rfl) (fun _ _ _ h => h) hS (Or.inl ⟨by rfl, fun w hSw => ?_⟩) ?_
    · go_split_ands
      go_simp
    try simp only [Act.put, List.setIfInBounds_toArray, List.set_cons_zero, List.set_cons_succ]
    refine wpAnyL_take0 (i := 7) (oi := { dst := some 106, op := Go.Op.fieldAddr 60 (Go.Operand.tmp 105) 2, type := 0, pos := "law.go:133", after := #[{ on := 6, ground := Go.Ground.data }], guard := none }) (v := .pointer (some ⟨T, 2, none⟩)) rfl (by kernel_rfl) (by kernel_rfl) (by kernel_rfl) (by kernel_rfl) (fun _ _ _ h => h) hS (Or.inl ⟨by rfl, fun w hSw => ?_⟩) ?_
    · go_split_ands
      go_simp
    try simp only [Act.put, List.setIfInBounds_toArray, List.set_cons_zero, List.set_cons_succ]
    refine wpAnyL_take0 (i := 10) (oi := { dst := some 108, op := Go.Op.nilCheck (Go.Operand.tmp 101), type := 0, pos := "law.go:133", after := #[{ on := 2, ground := Go.Ground.data }], guard := none }) (v := .pointer (some ⟨T, 0, none⟩)) rfl (by kernel_rfl) (by kernel_rfl) (by kernel_rfl) (by kernel_rfl) (fun _ _ _ h => h) hS (Or.inl ⟨by rfl, fun w hSw => ?_⟩) ?_
    · go_split_ands
      go_simp
    try simp only [Act.put, List.setIfInBounds_toArray, List.set_cons_zero, List.set_cons_succ]
    refine wpAnyL_take0 (i := 11) (oi := { dst := some 109, op := Go.Op.fieldAddr 60 (Go.Operand.tmp 108) 4, type := 0, pos := "law.go:133", after := #[{ on := 10, ground := Go.Ground.data }], guard := none }) (v := .pointer (some ⟨T, 98, none⟩)) rfl (by kernel_rfl) (by kernel_rfl) (by kernel_rfl) (by kernel_rfl) (fun _ _ _ h => h) hS (Or.inl ⟨by rfl, fun w hSw => ?_⟩) ?_
    · go_split_ands
      go_simp
    try simp only [Act.put, List.setIfInBounds_toArray, List.set_cons_zero, List.set_cons_succ]
    refine wpAnyL_ready (rs := [5, 8]) (by kernel_rfl) (by simp) ?_
    refine AllReadyL.cons (o := { dst := some 104, op := Go.Op.box 60 (Go.Operand.tmp 103), type := 37, pos := "law.go:133", after := #[{ on := 4, ground := Go.Ground.data }], guard := none }) rfl (fun K hK => ?_) (AllReadyL.cons (o := { dst := some 107, op := Go.Op.indexAddr 56 (Go.Operand.tmp 106) (Go.Operand.tmp 100), type := 0, pos := "law.go:133", after := #[{ on := 7, ground := Go.Ground.data }, { on := 1, ground := Go.Ground.data }, { on := 0, ground := Go.Ground.phase }, { on := 1, ground := Go.Ground.phase }, { on := 2, ground := Go.Ground.textOnly Go.Departure.lateStores }, { on := 3, ground := Go.Ground.textOnly Go.Departure.lateStores }, { on := 4, ground := Go.Ground.textOnly Go.Departure.lateStoresUnsure }, { on := 5, ground := Go.Ground.textOnly Go.Departure.lateStoresUnsure }], guard := none }) rfl (fun K hK => ?_) AllReadyL.nil)
    · refine step_runAt rfl _ _ (box133 _ _ _ _ _ rfl rfl) ?_
      refine hK.out _ _ (fun _ => trivial) ?_
      clear hK K
      try simp only [Act.put, List.setIfInBounds_toArray, List.set_cons_zero, List.set_cons_succ]
      refine wpAnyL_ready (rs := [8]) (by kernel_rfl) (by simp) ?_
      refine AllReadyL.cons (o := { dst := some 107, op := Go.Op.indexAddr 56 (Go.Operand.tmp 106) (Go.Operand.tmp 100), type := 0, pos := "law.go:133", after := #[{ on := 7, ground := Go.Ground.data }, { on := 1, ground := Go.Ground.data }, { on := 0, ground := Go.Ground.phase }, { on := 1, ground := Go.Ground.phase }, { on := 2, ground := Go.Ground.textOnly Go.Departure.lateStores }, { on := 3, ground := Go.Ground.textOnly Go.Departure.lateStores }, { on := 4, ground := Go.Ground.textOnly Go.Departure.lateStoresUnsure }, { on := 5, ground := Go.Ground.textOnly Go.Departure.lateStoresUnsure }], guard := none }) rfl (fun K hK => ?_) AllReadyL.nil
      go_simp
      refine hK.out _ _ (fun _ => trivial) ?_
      clear hK K
      try simp only [Act.put, List.setIfInBounds_toArray, List.set_cons_zero, List.set_cons_succ]
      refine wpAnyL_ready (rs := [9]) (by kernel_rfl) (by simp) ?_
      refine AllReadyL.cons (o := { dst := none, op := Go.Op.store 3 (Go.Operand.tmp 107) (Go.Operand.const (Go.Value.int Go.IntKind.i64 2)), type := 0, pos := "law.go:133", after := #[{ on := 8, ground := Go.Ground.data }, { on := 0, ground := Go.Ground.phase }, { on := 1, ground := Go.Ground.phase }, { on := 2, ground := Go.Ground.textOnly Go.Departure.lateStores }, { on := 3, ground := Go.Ground.textOnly Go.Departure.lateStores }, { on := 4, ground := Go.Ground.textOnly Go.Departure.lateStoresUnsure }, { on := 5, ground := Go.Ground.textOnly Go.Departure.lateStoresUnsure }], guard := none }) rfl (fun K hK => ?_) AllReadyL.nil
      go_simp
      refine hK.out _ _ (late_no (by kernel_rfl)) ?_
      clear hK K
      try simp only [Act.put, List.setIfInBounds_toArray, List.set_cons_zero, List.set_cons_succ]
      refine wpAnyL_ready (rs := [12]) (by kernel_rfl) (by simp) ?_
      refine AllReadyL.cons (o := { dst := some 110, op := Go.Op.indexAddr 58 (Go.Operand.tmp 109) (Go.Operand.tmp 102), type := 0, pos := "law.go:133", after := #[{ on := 11, ground := Go.Ground.data }, { on := 3, ground := Go.Ground.data }, { on := 0, ground := Go.Ground.phase }, { on := 1, ground := Go.Ground.phase }, { on := 2, ground := Go.Ground.phase }, { on := 3, ground := Go.Ground.phase }, { on := 4, ground := Go.Ground.phase }, { on := 5, ground := Go.Ground.phase }, { on := 6, ground := Go.Ground.phase }, { on := 7, ground := Go.Ground.phase }, { on := 8, ground := Go.Ground.phase }, { on := 9, ground := Go.Ground.phase }], guard := none }) rfl (fun K hK => ?_) AllReadyL.nil
      go_simp
      refine hK.out _ _ (late_no (by kernel_rfl)) ?_
      clear hK K
      try simp only [Act.put, List.setIfInBounds_toArray, List.set_cons_zero, List.set_cons_succ]
      refine wpAnyL_ready (rs := [13]) (by kernel_rfl) (by simp) ?_
      refine AllReadyL.cons (o := { dst := none, op := Go.Op.store 37 (Go.Operand.tmp 110) (Go.Operand.tmp 104), type := 0, pos := "law.go:133", after := #[{ on := 12, ground := Go.Ground.data }, { on := 5, ground := Go.Ground.data }, { on := 9, ground := Go.Ground.chain }, { on := 0, ground := Go.Ground.phase }, { on := 1, ground := Go.Ground.phase }, { on := 2, ground := Go.Ground.phase }, { on := 3, ground := Go.Ground.phase }, { on := 4, ground := Go.Ground.phase }, { on := 5, ground := Go.Ground.phase }, { on := 6, ground := Go.Ground.phase }, { on := 7, ground := Go.Ground.phase }, { on := 8, ground := Go.Ground.phase }, { on := 9, ground := Go.Ground.phase }], guard := none }) rfl (fun K hK => ?_) AllReadyL.nil
      go_simp
      refine hK.out _ _ (late_no (by kernel_rfl)) ?_
      clear hK K
      try simp only [Act.put, List.setIfInBounds_toArray, List.set_cons_zero, List.set_cons_succ]
      refine wpAnyL_done (by kernel_rfl) ?_ _
      have HFF := Lib.hid (HF.out (((V.setCell ⟨T, 2 + c, none⟩ (.int .i64 2)).setCell ⟨T, 98 + c, none⟩ (.pointer (some ⟨V.heap.size, 0, none⟩))).alloc (.cells (rcs (rb0 false (.slice none 0 0))).toArray 60)) N5 b1 T nb _ _ _ HB2.out HN2.out HF2.out hkn (by omega) (by omega) HH2.out)
      clear HF HB2 HN2 HF2 HH2
      try dsimp only
      repeat (first | exact HFF.out _ _ _ _ _ _ _ _ _ _ _ _ _ _ _ _ _ _ _ _ _ _ _ _ _ _ _ _ _ _ _ _ _ _ _ _ _ _ _ _ _ _ _ _ _ _ _ _ _ _ _ _ _ _ _ _ _ _ _ _ _ _ _ _ _ _ _ _ _ _ _ _ _ _ _ _ _ _ _ _ _ _ _ _ _ _ _ _ _ _ _ _ _ _ _ _ _ _ _ _ _ _ _ _ _ _ _ _ _ _ _ _ _ _ _ _ _ _ _ _ _ _ _ | go_step)
    · go_simp
      refine hK.out _ _ (fun _ => trivial) ?_
      clear hK K
      try simp only [Act.put, List.setIfInBounds_toArray, List.set_cons_zero, List.set_cons_succ]
      refine wpAnyL_ready (rs := [5, 9]) (by kernel_rfl) (by simp) ?_
      refine AllReadyL.cons (o := { dst := some 104, op := Go.Op.box 60 (Go.Operand.tmp 103), type := 37, pos := "law.go:133", after := #[{ on := 4, ground := Go.Ground.data }], guard := none }) rfl (fun K hK => ?_) (AllReadyL.cons (o := { dst := none, op := Go.Op.store 3 (Go.Operand.tmp 107) (Go.Operand.const (Go.Value.int Go.IntKind.i64 2)), type := 0, pos := "law.go:133", after := #[{ on := 8, ground := Go.Ground.data }, { on := 0, ground := Go.Ground.phase }, { on := 1, ground := Go.Ground.phase }, { on := 2, ground := Go.Ground.textOnly Go.Departure.lateStores }, { on := 3, ground := Go.Ground.textOnly Go.Departure.lateStores }, { on := 4, ground := Go.Ground.textOnly Go.Departure.lateStoresUnsure }, { on := 5, ground := Go.Ground.textOnly Go.Departure.lateStoresUnsure }], guard := none }) rfl (fun K hK => ?_) AllReadyL.nil)
      · refine step_runAt rfl _ _ (box133 _ _ _ _ _ rfl rfl) ?_
        refine hK.out _ _ (fun _ => trivial) ?_
        clear hK K
        try simp only [Act.put, List.setIfInBounds_toArray, List.set_cons_zero, List.set_cons_succ]
        refine wpAnyL_ready (rs := [9]) (by kernel_rfl) (by simp) ?_
        refine AllReadyL.cons (o := { dst := none, op := Go.Op.store 3 (Go.Operand.tmp 107) (Go.Operand.const (Go.Value.int Go.IntKind.i64 2)), type := 0, pos := "law.go:133", after := #[{ on := 8, ground := Go.Ground.data }, { on := 0, ground := Go.Ground.phase }, { on := 1, ground := Go.Ground.phase }, { on := 2, ground := Go.Ground.textOnly Go.Departure.lateStores }, { on := 3, ground := Go.Ground.textOnly Go.Departure.lateStores }, { on := 4, ground := Go.Ground.textOnly Go.Departure.lateStoresUnsure }, { on := 5, ground := Go.Ground.textOnly Go.Departure.lateStoresUnsure }], guard := none }) rfl (fun K hK => ?_) AllReadyL.nil
        go_simp
        refine hK.out _ _ (late_no (by kernel_rfl)) ?_
        clear hK K
        try simp only [Act.put, List.setIfInBounds_toArray, List.set_cons_zero, List.set_cons_succ]
        refine wpAnyL_ready (rs := [12]) (by kernel_rfl) (by simp) ?_
        refine AllReadyL.cons (o := { dst := some 110, op := Go.Op.indexAddr 58 (Go.Operand.tmp 109) (Go.Operand.tmp 102), type := 0, pos := "law.go:133", after := #[{ on := 11, ground := Go.Ground.data }, { on := 3, ground := Go.Ground.data }, { on := 0, ground := Go.Ground.phase }, { on := 1, ground := Go.Ground.phase }, { on := 2, ground := Go.Ground.phase }, { on := 3, ground := Go.Ground.phase }, { on := 4, ground := Go.Ground.phase }, { on := 5, ground := Go.Ground.phase }, { on := 6, ground := Go.Ground.phase }, { on := 7, ground := Go.Ground.phase }, { on := 8, ground := Go.Ground.phase }, { on := 9, ground := Go.Ground.phase }], guard := none }) rfl (fun K hK => ?_) AllReadyL.nil
        go_simp
        refine hK.out _ _ (late_no (by kernel_rfl)) ?_
        clear hK K
        try simp only [Act.put, List.setIfInBounds_toArray, List.set_cons_zero, List.set_cons_succ]
        refine wpAnyL_ready (rs := [13]) (by kernel_rfl) (by simp) ?_
        refine AllReadyL.cons (o := { dst := none, op := Go.Op.store 37 (Go.Operand.tmp 110) (Go.Operand.tmp 104), type := 0, pos := "law.go:133", after := #[{ on := 12, ground := Go.Ground.data }, { on := 5, ground := Go.Ground.data }, { on := 9, ground := Go.Ground.chain }, { on := 0, ground := Go.Ground.phase }, { on := 1, ground := Go.Ground.phase }, { on := 2, ground := Go.Ground.phase }, { on := 3, ground := Go.Ground.phase }, { on := 4, ground := Go.Ground.phase }, { on := 5, ground := Go.Ground.phase }, { on := 6, ground := Go.Ground.phase }, { on := 7, ground := Go.Ground.phase }, { on := 8, ground := Go.Ground.phase }, { on := 9, ground := Go.Ground.phase }], guard := none }) rfl (fun K hK => ?_) AllReadyL.nil
        go_simp
        refine hK.out _ _ (late_no (by kernel_rfl)) ?_
        clear hK K
        try simp only [Act.put, List.setIfInBounds_toArray, List.set_cons_zero, List.set_cons_succ]
        refine wpAnyL_done (by kernel_rfl) ?_ _
        have HFF := Lib.hid (HF.out (((V.setCell ⟨T, 2 + c, none⟩ (.int .i64 2)).setCell ⟨T, 98 + c, none⟩ (.pointer (some ⟨V.heap.size, 0, none⟩))).alloc (.cells (rcs (rb0 false (.slice none 0 0))).toArray 60)) N5 b1 T nb _ _ _ HB2.out HN2.out HF2.out hkn (by omega) (by omega) HH2.out)
        clear HF HB2 HN2 HF2 HH2
        try dsimp only
        repeat (first | exact HFF.out _ _ _ _ _ _ _ _ _ _ _ _ _ _ _ _ _ _ _ _ _ _ _ _ _ _ _ _ _ _ _ _ _ _ _ _ _ _ _ _ _ _ _ _ _ _ _ _ _ _ _ _ _ _ _ _ _ _ _ _ _ _ _ _ _ _ _ _ _ _ _ _ _ _ _ _ _ _ _ _ _ _ _ _ _ _ _ _ _ _ _ _ _ _ _ _ _ _ _ _ _ _ _ _ _ _ _ _ _ _ _ _ _ _ _ _ _ _ _ _ _ _ _ | go_step)
      · go_simp
        refine hK.out _ _ (late_no (by kernel_rfl)) ?_
        clear hK K
        try simp only [Act.put, List.setIfInBounds_toArray, List.set_cons_zero, List.set_cons_succ]
        refine wpAnyL_ready (rs := [5]) (by kernel_rfl) (by simp) ?_
        refine AllReadyL.cons (o := { dst := some 104, op := Go.Op.box 60 (Go.Operand.tmp 103), type := 37, pos := "law.go:133", after := #[{ on := 4, ground := Go.Ground.data }], guard := none }) rfl (fun K hK => ?_) AllReadyL.nil
        refine step_runAt rfl _ _ (box133 _ _ _ _ _ rfl rfl) ?_
        rw [hsz]
        refine hK.out _ _ (late_no (by kernel_rfl)) ?_
        clear hK K
        try simp only [Act.put, List.setIfInBounds_toArray, List.set_cons_zero, List.set_cons_succ]
        refine wpAnyL_ready (rs := [12]) (by kernel_rfl) (by simp) ?_
        refine AllReadyL.cons (o := { dst := some 110, op := Go.Op.indexAddr 58 (Go.Operand.tmp 109) (Go.Operand.tmp 102), type := 0, pos := "law.go:133", after := #[{ on := 11, ground := Go.Ground.data }, { on := 3, ground := Go.Ground.data }, { on := 0, ground := Go.Ground.phase }, { on := 1, ground := Go.Ground.phase }, { on := 2, ground := Go.Ground.phase }, { on := 3, ground := Go.Ground.phase }, { on := 4, ground := Go.Ground.phase }, { on := 5, ground := Go.Ground.phase }, { on := 6, ground := Go.Ground.phase }, { on := 7, ground := Go.Ground.phase }, { on := 8, ground := Go.Ground.phase }, { on := 9, ground := Go.Ground.phase }], guard := none }) rfl (fun K hK => ?_) AllReadyL.nil
        go_simp
        refine hK.out _ _ (late_no (by kernel_rfl)) ?_
        clear hK K
        try simp only [Act.put, List.setIfInBounds_toArray, List.set_cons_zero, List.set_cons_succ]
        refine wpAnyL_ready (rs := [13]) (by kernel_rfl) (by simp) ?_
        refine AllReadyL.cons (o := { dst := none, op := Go.Op.store 37 (Go.Operand.tmp 110) (Go.Operand.tmp 104), type := 0, pos := "law.go:133", after := #[{ on := 12, ground := Go.Ground.data }, { on := 5, ground := Go.Ground.data }, { on := 9, ground := Go.Ground.chain }, { on := 0, ground := Go.Ground.phase }, { on := 1, ground := Go.Ground.phase }, { on := 2, ground := Go.Ground.phase }, { on := 3, ground := Go.Ground.phase }, { on := 4, ground := Go.Ground.phase }, { on := 5, ground := Go.Ground.phase }, { on := 6, ground := Go.Ground.phase }, { on := 7, ground := Go.Ground.phase }, { on := 8, ground := Go.Ground.phase }, { on := 9, ground := Go.Ground.phase }], guard := none }) rfl (fun K hK => ?_) AllReadyL.nil
        go_simp
        refine hK.out _ _ (late_no (by kernel_rfl)) ?_
        clear hK K
        try simp only [Act.put, List.setIfInBounds_toArray, List.set_cons_zero, List.set_cons_succ]
        refine wpAnyL_done (by kernel_rfl) ?_ _
        have HFF := Lib.hid (HF.out (((V.setCell ⟨T, 2 + c, none⟩ (.int .i64 2)).setCell ⟨T, 98 + c, none⟩ (.pointer (some ⟨V.heap.size, 0, none⟩))).alloc (.cells (rcs (rb0 false (.slice none 0 0))).toArray 60)) N5 b1 T nb _ _ _ HB2.out HN2.out HF2.out hkn (by omega) (by omega) HH2.out)
        clear HF HB2 HN2 HF2 HH2
        try dsimp only
        repeat (first | exact HFF.out _ _ _ _ _ _ _ _ _ _ _ _ _ _ _ _ _ _ _ _ _ _ _ _ _ _ _ _ _ _ _ _ _ _ _ _ _ _ _ _ _ _ _ _ _ _ _ _ _ _ _ _ _ _ _ _ _ _ _ _ _ _ _ _ _ _ _ _ _ _ _ _ _ _ _ _ _ _ _ _ _ _ _ _ _ _ _ _ _ _ _ _ _ _ _ _ _ _ _ _ _ _ _ _ _ _ _ _ _ _ _ _ _ _ _ _ _ _ _ _ _ _ _ | go_step)

  | 3, hd4 =>
    have kn := fun w' (hb : nb ≤ w'.heap.size) => RootN.new (base := nb) (w := w') hb
    have kp := fun w' b' (h : RootN nb w' (fun _ => none) (fun _ => RT.no) b') => h.setPair p c hc32 (RootN.baseLe h)
    have kk := fun w' b' (h : RootN nb w' Pf Kf bn) (hk : RootN nb w' (setP (fun _ => none) c (some p)) (setK (fun _ => RT.no) c .no) b') => h.setKid (.inner (setP (fun _ => none) c (some p)) (setK (fun _ => RT.no) c .no)) b' c hc32 (RootN.baseLe h) rfl hk.node
    unfold at0 at kn kp kk
    unfold Pr.v at kp
    clear hd4 q0 q1
    have hdr := (Below.refl W6.heap.size W6).drew
    have hS0 : (fun w' : World => w'.cell? ⟨N8, 0, none⟩ = some (.string p.1) ∧ w'.cell? ⟨N8, 1, none⟩ = some (.string p.2)) W6.drew := ⟨hP.cell 0, hP.cell 1⟩
    replace hP := hP.below hdr
    replace hH := hH.below hdr
    have hF := RfN.below _ hF0 hdr
    have hR := RootN.below hR hdr
    replace hB := hB.drew
    clear hdr hF0
    go_upto_region 8 with (fail)
    refine wp_region_held_drew (S := (fun w' : World => w'.cell? ⟨N8, 0, none⟩ = some (.string p.1) ∧ w'.cell? ⟨N8, 1, none⟩ = some (.string p.2))) (by kernel_rfl) hS0 ?_
    intro hS
    refine wpAnyH_take (i := 0) (oi := { dst := some 35, op := Go.Op.move (Go.Operand.tmp 11), type := 29, pos := "law.go:135", after := #[], guard := none }) (v := .pointer (some ⟨bn, 0, none⟩)) rfl (by kernel_rfl) (by kernel_rfl) (by kernel_rfl) (fun _ _ _ h => h) (Or.inl ⟨by rfl, fun w hSw => ?_⟩) hS ?_
    · go_split_ands
      go_simp
    try simp only [Act.put, List.setIfInBounds_toArray, List.set_cons_zero, List.set_cons_succ]
    refine wpAnyH_take (i := 1) (oi := { dst := some 36, op := Go.Op.move (Go.Operand.tmp 14), type := 3, pos := "law.go:135", after := #[], guard := none }) (v := .int .i64 c) rfl (by kernel_rfl) (by kernel_rfl) (by kernel_rfl) (fun _ _ _ h => h) (Or.inl ⟨by rfl, fun w hSw => ?_⟩) hS ?_
    · go_split_ands
      go_simp
    try simp only [Act.put, List.setIfInBounds_toArray, List.set_cons_zero, List.set_cons_succ]
    refine wpAnyH_take (i := 3) (oi := { dst := some 38, op := Go.Op.move (Go.Operand.tmp 14), type := 3, pos := "law.go:135", after := #[], guard := none }) (v := .int .i64 c) rfl (by kernel_rfl) (by kernel_rfl) (by kernel_rfl) (fun _ _ _ h => h) (Or.inl ⟨by rfl, fun w hSw => ?_⟩) hS ?_
    · go_split_ands
      go_simp
    try simp only [Act.put, List.setIfInBounds_toArray, List.set_cons_zero, List.set_cons_succ]
    refine wpAnyH_take (i := 4) (oi := { dst := some 39, op := Go.Op.load 52 (Go.Operand.tmp 8), type := 52, pos := "law.go:135", after := #[], guard := none }) (v := .agg #[.string p.1, .string p.2]) rfl (by kernel_rfl) (by kernel_rfl) (by kernel_rfl) (fun _ _ _ h => h) (Or.inl ⟨by rfl, fun w hSw => ?_⟩) hS ?_
    · go_split_ands
      go_simp
    try simp only [Act.put, List.setIfInBounds_toArray, List.set_cons_zero, List.set_cons_succ]
    refine wpAnyH_ready (rs := [2]) (by kernel_rfl) (by simp) ?_
    refine AllReadyH.cons (o := { dst := some 37, op := Go.Op.call { callee := Go.Callee.value (Go.Operand.func 24), args := #[], argTypes := #[] }, type := 29, pos := "law.go:135", after := #[], guard := none }) rfl (fun K hK => ?_) AllReadyH.nil
    go_simp
    refine (kn _ (RootN.baseLe hR)).mono ?_
    rintro e wA ⟨bk, rfl, hKd, hBA⟩
    go_wp2_with fail
    have hSn := keepB hS hBA
    refine hK.out _ _ hSn (fun _ => ?_)
    clear hK K hS
    try simp only [Act.put, List.setIfInBounds_toArray, List.set_cons_zero, List.set_cons_succ]
    have hS := hSn
    clear hSn
    have hB := hB.trans (hBA.mono hB.size)
    replace hF := RfN.below _ hF hBA
    replace hR := RootN.below hR hBA
    replace hH := hH.below hBA
    replace hP := hP.below hBA
    refine wpAnyH_ready (rs := [5]) (by kernel_rfl) (by simp) ?_
    refine AllReadyH.cons (o := { dst := some 40, op := Go.Op.call { callee := Go.Callee.value (Go.Operand.func 21), args := #[Go.Operand.tmp 37, Go.Operand.const (Go.Value.pointer none), Go.Operand.tmp 38, Go.Operand.tmp 39], argTypes := #[29, 69, 3, 52] }, type := 29, pos := "law.go:135", after := #[{ on := 2, ground := Go.Ground.data }, { on := 3, ground := Go.Ground.data }, { on := 4, ground := Go.Ground.data }, { on := 2, ground := Go.Ground.chain }], guard := none }) rfl (fun K hK => ?_) AllReadyH.nil
    go_simp
    refine (kp _ _ hKd).mono ?_
    rintro e wC ⟨bk1, rfl, hKd, hBC⟩
    go_wp2_with fail
    have hSn := keepB hS hBC
    refine hK.out _ _ hSn (fun _ => ?_)
    clear hK K hS
    try simp only [Act.put, List.setIfInBounds_toArray, List.set_cons_zero, List.set_cons_succ]
    have hS := hSn
    clear hSn
    have hB := hB.trans (hBC.mono hB.size)
    replace hF := RfN.below _ hF hBC
    replace hR := RootN.below hR hBC
    replace hH := hH.below hBC
    replace hP := hP.below hBC
    refine wpAnyH_ready (rs := [6]) (by kernel_rfl) (by simp) ?_
    refine AllReadyH.cons (o := { dst := some 41, op := Go.Op.call { callee := Go.Callee.value (Go.Operand.func 23), args := #[Go.Operand.tmp 35, Go.Operand.const (Go.Value.pointer none), Go.Operand.tmp 36, Go.Operand.tmp 40], argTypes := #[29, 69, 3, 29] }, type := 29, pos := "law.go:135", after := #[{ on := 0, ground := Go.Ground.data }, { on := 1, ground := Go.Ground.data }, { on := 5, ground := Go.Ground.data }, { on := 5, ground := Go.Ground.chain }], guard := none }) rfl (fun K hK => ?_) AllReadyH.nil
    go_simp
    refine (kk _ _ hR hKd).mono ?_
    rintro e wD ⟨b1, rfl, hR1, hBD⟩
    go_wp2_with fail
    have hSn := keepB hS hBD
    refine hK.out _ _ hSn (fun _ => ?_)
    clear hK K hS
    try simp only [Act.put, List.setIfInBounds_toArray, List.set_cons_zero, List.set_cons_succ]
    have hS := hSn
    clear hSn
    have hB := hB.trans (hBD.mono hB.size)
    replace hF := RfN.below _ hF hBD
    replace hH := hH.below hBD
    replace hP := hP.below hBD
    clear hR hKd
    refine wpAnyH_take (i := 7) (oi := { dst := some 11, op := Go.Op.assign (Go.Operand.tmp 41), type := 29, pos := "law.go:135", after := #[{ on := 6, ground := Go.Ground.data }, { on := 6, ground := Go.Ground.chain }, { on := 0, ground := Go.Ground.phase }, { on := 1, ground := Go.Ground.phase }, { on := 2, ground := Go.Ground.phase }, { on := 3, ground := Go.Ground.phase }, { on := 4, ground := Go.Ground.phase }, { on := 5, ground := Go.Ground.phase }, { on := 6, ground := Go.Ground.phase }], guard := none }) (v := .pointer (some ⟨b1, 0, none⟩)) rfl (by kernel_rfl) (by kernel_rfl) (by kernel_rfl) (fun _ _ _ h => h) (Or.inl ⟨by rfl, fun w hSw => ?_⟩) hS ?_
    · go_split_ands
      go_simp
    try simp only [Act.put, List.setIfInBounds_toArray, List.set_cons_zero, List.set_cons_succ]
    refine wpAnyH_done (by kernel_rfl) ?_ _
    clear kn kp kk hS hS0
    have hF := RfN.less (N' := fun x => x = wD.heap.size) _ _ (fun x hx => .inr (by subst hx; exact Nat.le_refl _)) _ hF
    have hBx := (Below.refl _ wD).alloc (Nat.le_refl _) (.cells (rcs (rb0 false (.slice none 0 0))).toArray 60)
    have hTl := RfN.lt hF
    have hFx := RfN.new (w := wD) (N := fun x => False ∨ x = T) (fun x hx => by rcases hx with h | rfl; exact h.elim; exact hTl)
    have hF := RfN.below _ hF hBx
    have hR1 := RootN.below hR1 hBx
    have hH := hH.below hBx
    have hP := hP.below hBx
    have hbx : w.heap.size ≤ wD.heap.size := hB.size
    have hB := hB.trans (hBx.mono hB.size)
    clear hBx hTl
    go_upto_region 10 with (first
      | (with_reducible refine wpList_runAt rfl _ rfl _ _ (build133n _ _ _ rfl) ?_)
      | (with_reducible refine wpList_runAt rfl _ rfl _ _ (box133 _ _ _ _ _ rfl rfl) ?_))
    generalize wD.alloc (.cells (rcs (rb0 false (.slice none 0 0))).toArray 60) = Wx at *
    generalize wD.heap.size = bx at *
    obtain ⟨f, hRB⟩ := rf_rb hFx
    have z2 := hRB.cell (2 + c) (by omega)
    have y2 := hRB.frozen (2 + c)
    have z3 := hRB.cell (34 + c * 2) (by omega)
    have y3 := hRB.frozen (34 + c * 2)
    have z4 := hRB.cell (34 + c * 2 + 1) (by omega)
    have y4 := hRB.frozen (34 + c * 2 + 1)
    have hNT := rf_ne hFx hH (by decide)
    have hPT := rf_ne hFx hP (by decide)
    have q0 : Wx.cell? ⟨N8, 0, none⟩ = some (.string p.1) := hP.cell 0
    have q1 : Wx.cell? ⟨N8, 1, none⟩ = some (.string p.2) := hP.cell 1
    have hS8 : (Wx.drew.setCell ⟨bx, 2 + c, none⟩ (.int .i64 1)).cell? ⟨N8, 0, none⟩ = some (.string p.1) ∧ (Wx.drew.setCell ⟨bx, 2 + c, none⟩ (.int .i64 1)).cell? ⟨N8, 1, none⟩ = some (.string p.2) := by
      have h9 := (hP.below (Below.refl Wx.heap.size Wx).drew).far (p := ⟨bx, 2 + c, none⟩) hPT (.int .i64 1)
      exact ⟨h9.cell 0, h9.cell 1⟩
    have hk2 : Keep [bx] Wx (((Wx.setCell ⟨bx, 2 + c, none⟩ (.int .i64 1)).setCell ⟨bx, 34 + c * 2, none⟩ (.string p.1)).setCell ⟨bx, 34 + c * 2 + 1, none⟩ (.string p.2)) := ((((Keep.refl [bx] Wx).setCell (p := ⟨bx, 2 + c, none⟩) (by simp) (.int .i64 1)).setCell (p := ⟨bx, 34 + c * 2, none⟩) (by simp) (.string p.1)).setCell (p := ⟨bx, 34 + c * 2 + 1, none⟩) (by simp) (.string p.2))
    have hF2 := RfN.less (N' := fun _ => False) _ _ (fun x hx => hx.elim) _ (RfN.keepN hk2.all.size _ _ (fun x hx hn => hk2.block x hx (by simpa using hn)) _ hF)
    have hFx2 := hFx.setPair p hc32
    have hN2 := NdR.keepF (KeepF.ofKeep hk2) (fun x hx => rb_types hRB x (List.mem_singleton.1 hx)) _ _ hR1.node
    have hH2 := Blk.keep hH hk2 (by simp; exact hNT)
    have hB2 : Below w.heap.size w (((Wx.setCell ⟨bx, 2 + c, none⟩ (.int .i64 1)).setCell ⟨bx, 34 + c * 2, none⟩ (.string p.1)).setCell ⟨bx, 34 + c * 2 + 1, none⟩ (.string p.2)) := (((hB.setCell (p := ⟨bx, 2 + c, none⟩) hbx (.int .i64 1)).setCell (p := ⟨bx, 34 + c * 2, none⟩) hbx (.string p.1)).setCell (p := ⟨bx, 34 + c * 2 + 1, none⟩) hbx (.string p.2))
    have hdr := (Below.refl (((Wx.setCell ⟨bx, 2 + c, none⟩ (.int .i64 1)).setCell ⟨bx, 34 + c * 2, none⟩ (.string p.1)).setCell ⟨bx, 34 + c * 2 + 1, none⟩ (.string p.2)).heap.size (((Wx.setCell ⟨bx, 2 + c, none⟩ (.int .i64 1)).setCell ⟨bx, 34 + c * 2, none⟩ (.string p.1)).setCell ⟨bx, 34 + c * 2 + 1, none⟩ (.string p.2))).drew
    have HF2 := Lib.hid (RfN.below _ hF2 hdr)
    have HX2 := Lib.hid (RfN.below _ hFx2 hdr)
    have HN2 := Lib.hid (NdR.below _ hN2 hdr)
    have HH2 := Lib.hid (hH2.below hdr)
    have HB2 := Lib.hid hB2.drew
    clear hk2 hF2 hFx2 hN2 hH2 hB2 hdr hRB hF hFx hR1 hH hB hP hPT
    refine wp_region_late (S := fun w' => w'.cell? ⟨N8, 0, none⟩ = some (.string p.1) ∧ w'.cell? ⟨N8, 1, none⟩ = some (.string p.2)) (st := 12) (by kernel_rfl) ?_
    have hS : Wx.drew.cell? ⟨N8, 0, none⟩ = some (.string p.1) ∧ Wx.drew.cell? ⟨N8, 1, none⟩ = some (.string p.2) := ⟨q0, q1⟩
    refine wpAnyL_take0 (i := 0) (oi := { dst := some 44, op := Go.Op.move (Go.Operand.tmp 15), type := 37, pos := "law.go:137", after := #[], guard := none }) (v := .pointer (some ⟨bx, 0, none⟩)) rfl (by kernel_rfl) (by kernel_rfl) (by kernel_rfl) (by kernel_rfl) (fun _ _ _ h => h) hS (Or.inl ⟨by rfl, fun w hSw => ?_⟩) ?_
    · go_split_ands
      go_simp
    try simp only [Act.put, List.setIfInBounds_toArray, List.set_cons_zero, List.set_cons_succ]
    refine wpAnyL_take0 (i := 1) (oi := { dst := some 45, op := Go.Op.move (Go.Operand.tmp 14), type := 3, pos := "law.go:137", after := #[], guard := none }) (v := .int .i64 c) rfl (by kernel_rfl) (by kernel_rfl) (by kernel_rfl) (by kernel_rfl) (fun _ _ _ h => h) hS (Or.inl ⟨by rfl, fun w hSw => ?_⟩) ?_
    · go_split_ands
      go_simp
    try simp only [Act.put, List.setIfInBounds_toArray, List.set_cons_zero, List.set_cons_succ]
    refine wpAnyL_take0 (i := 2) (oi := { dst := some 46, op := Go.Op.move (Go.Operand.tmp 15), type := 37, pos := "law.go:137", after := #[{ on := 8, ground := Go.Ground.gcOnly Go.Departure.lateStores }], guard := none }) (v := .pointer (some ⟨bx, 0, none⟩)) rfl (by kernel_rfl) (by kernel_rfl) (by kernel_rfl) (by kernel_rfl) (fun _ _ _ h => h) hS (Or.inl ⟨by rfl, fun w hSw => ?_⟩) ?_
    · go_split_ands
      go_simp
    try simp only [Act.put, List.setIfInBounds_toArray, List.set_cons_zero, List.set_cons_succ]
    refine wpAnyL_take0 (i := 3) (oi := { dst := some 47, op := Go.Op.move (Go.Operand.tmp 14), type := 3, pos := "law.go:137", after := #[{ on := 8, ground := Go.Ground.gcOnly Go.Departure.lateStores }], guard := none }) (v := .int .i64 c) rfl (by kernel_rfl) (by kernel_rfl) (by kernel_rfl) (by kernel_rfl) (fun _ _ _ h => h) hS (Or.inl ⟨by rfl, fun w hSw => ?_⟩) ?_
    · go_split_ands
      go_simp
    try simp only [Act.put, List.setIfInBounds_toArray, List.set_cons_zero, List.set_cons_succ]
    refine wpAnyL_take (i := 4) (oi := { dst := some 48, op := Go.Op.load 52 (Go.Operand.tmp 8), type := 52, pos := "law.go:137", after := #[{ on := 8, ground := Go.Ground.gcOnly Go.Departure.lateStores }], guard := none }) (v := .agg #[.string p.1, .string p.2]) rfl (by kernel_rfl) (by kernel_rfl) (by kernel_rfl) (by kernel_rfl) (fun _ _ _ h => h) hS (Or.inl ⟨by rfl, fun w hSw => ?_⟩) ?_
    · go_split_ands
      go_simp
    try simp only [Act.put, List.setIfInBounds_toArray, List.set_cons_zero, List.set_cons_succ]
    refine wpAnyL_take0 (i := 5) (oi := { dst := some 49, op := Go.Op.nilCheck (Go.Operand.tmp 44), type := 0, pos := "law.go:137", after := #[{ on := 0, ground := Go.Ground.data }], guard := none }) (v := .pointer (some ⟨bx, 0, none⟩)) rfl (by kernel_rfl) (by kernel_rfl) (by kernel_rfl) (by kernel_rfl) (fun _ _ _ h => h) hS (Or.inl ⟨by rfl, fun w hSw => ?_⟩) ?_
    · go_split_ands
      go_simp
    try simp only [Act.put, List.setIfInBounds_toArray, List.set_cons_zero, List.set_cons_succ]
    refine wpAnyL_take0 (i := 6) (oi := { dst := some 50, op := Go.Op.fieldAddr 60 (Go.Operand.tmp 49) 2, type := 0, pos := "law.go:137", after := #[{ on := 5, ground := Go.Ground.data }], guard := none }) (v := .pointer (some ⟨bx, 2, none⟩)) rfl (by kernel_rfl) (by kernel_rfl) (by kernel_rfl) (by kernel_rfl) (fun _ _ _ h => h) hS (Or.inl ⟨by rfl, fun w hSw => ?_⟩) ?_
    · go_split_ands
      go_simp
    try simp only [Act.put, List.setIfInBounds_toArray, List.set_cons_zero, List.set_cons_succ]
    refine wpAnyL_take0 (i := 9) (oi := { dst := some 52, op := Go.Op.nilCheck (Go.Operand.tmp 46), type := 0, pos := "law.go:137", after := #[{ on := 2, ground := Go.Ground.data }], guard := none }) (v := .pointer (some ⟨bx, 0, none⟩)) rfl (by kernel_rfl) (by kernel_rfl) (by kernel_rfl) (by kernel_rfl) (fun _ _ _ h => h) hS (Or.inl ⟨by rfl, fun w hSw => ?_⟩) ?_
    · go_split_ands
      go_simp
    try simp only [Act.put, List.setIfInBounds_toArray, List.set_cons_zero, List.set_cons_succ]
    refine wpAnyL_take0 (i := 10) (oi := { dst := some 53, op := Go.Op.fieldAddr 60 (Go.Operand.tmp 52) 3, type := 0, pos := "law.go:137", after := #[{ on := 9, ground := Go.Ground.data }], guard := none }) (v := .pointer (some ⟨bx, 34, none⟩)) rfl (by kernel_rfl) (by kernel_rfl) (by kernel_rfl) (by kernel_rfl) (fun _ _ _ h => h) hS (Or.inl ⟨by rfl, fun w hSw => ?_⟩) ?_
    · go_split_ands
      go_simp
    try simp only [Act.put, List.setIfInBounds_toArray, List.set_cons_zero, List.set_cons_succ]
    refine wpAnyL_ready (rs := [7]) (by kernel_rfl) (by simp) ?_
    refine AllReadyL.cons (o := { dst := some 51, op := Go.Op.indexAddr 56 (Go.Operand.tmp 50) (Go.Operand.tmp 45), type := 0, pos := "law.go:137", after := #[{ on := 6, ground := Go.Ground.data }, { on := 1, ground := Go.Ground.data }, { on := 0, ground := Go.Ground.phase }, { on := 1, ground := Go.Ground.phase }, { on := 2, ground := Go.Ground.textOnly Go.Departure.lateStores }, { on := 3, ground := Go.Ground.textOnly Go.Departure.lateStores }, { on := 4, ground := Go.Ground.textOnly Go.Departure.lateStores }], guard := none }) rfl (fun K hK => ?_) AllReadyL.nil
    go_simp
    refine hK.out _ _ (fun _ => hS) ?_
    clear hK K
    try simp only [Act.put, List.setIfInBounds_toArray, List.set_cons_zero, List.set_cons_succ]
    refine wpAnyL_ready (rs := [8]) (by kernel_rfl) (by simp) ?_
    refine AllReadyL.cons (o := { dst := none, op := Go.Op.store 3 (Go.Operand.tmp 51) (Go.Operand.const (Go.Value.int Go.IntKind.i64 1)), type := 0, pos := "law.go:137", after := #[{ on := 7, ground := Go.Ground.data }, { on := 0, ground := Go.Ground.phase }, { on := 1, ground := Go.Ground.phase }, { on := 2, ground := Go.Ground.textOnly Go.Departure.lateStores }, { on := 3, ground := Go.Ground.textOnly Go.Departure.lateStores }, { on := 4, ground := Go.Ground.textOnly Go.Departure.lateStores }], guard := none }) rfl (fun K hK => ?_) AllReadyL.nil
    go_simp
    refine hK.out _ _ (fun _ => hS8) ?_
    clear hK K
    try simp only [Act.put, List.setIfInBounds_toArray, List.set_cons_zero, List.set_cons_succ]
    refine wpAnyL_ready (rs := [11]) (by kernel_rfl) (by simp) ?_
    refine AllReadyL.cons (o := { dst := some 54, op := Go.Op.indexAddr 57 (Go.Operand.tmp 53) (Go.Operand.tmp 47), type := 0, pos := "law.go:137", after := #[{ on := 10, ground := Go.Ground.data }, { on := 3, ground := Go.Ground.data }, { on := 0, ground := Go.Ground.phase }, { on := 1, ground := Go.Ground.phase }, { on := 2, ground := Go.Ground.phase }, { on := 3, ground := Go.Ground.phase }, { on := 4, ground := Go.Ground.phase }, { on := 5, ground := Go.Ground.phase }, { on := 6, ground := Go.Ground.phase }, { on := 7, ground := Go.Ground.phase }, { on := 8, ground := Go.Ground.phase }], guard := none }) rfl (fun K hK => ?_) AllReadyL.nil
    go_simp
    refine hK.out _ _ (fun _ => hS8) ?_
    clear hK K
    try simp only [Act.put, List.setIfInBounds_toArray, List.set_cons_zero, List.set_cons_succ]
    refine wpAnyL_ready (rs := [12]) (by kernel_rfl) (by simp) ?_
    refine AllReadyL.cons (o := { dst := none, op := Go.Op.store 55 (Go.Operand.tmp 54) (Go.Operand.tmp 48), type := 0, pos := "law.go:137", after := #[{ on := 11, ground := Go.Ground.data }, { on := 4, ground := Go.Ground.data }, { on := 8, ground := Go.Ground.chain }, { on := 0, ground := Go.Ground.phase }, { on := 1, ground := Go.Ground.phase }, { on := 2, ground := Go.Ground.phase }, { on := 3, ground := Go.Ground.phase }, { on := 4, ground := Go.Ground.phase }, { on := 5, ground := Go.Ground.phase }, { on := 6, ground := Go.Ground.phase }, { on := 7, ground := Go.Ground.phase }, { on := 8, ground := Go.Ground.phase }], guard := none }) rfl (fun K hK => ?_) AllReadyL.nil
    go_simp
    refine hK.out _ _ (late_no (by kernel_rfl)) ?_
    clear hK K
    try simp only [Act.put, List.setIfInBounds_toArray, List.set_cons_zero, List.set_cons_succ]
    refine wpAnyL_done (by kernel_rfl) ?_ _
    clear z2 y2 z3 y3 z4 y4 q0 q1 hS hS8 hNT
    generalize (((Wx.setCell ⟨bx, 2 + c, none⟩ (.int .i64 1)).setCell ⟨bx, 34 + c * 2, none⟩ (.string p.1)).setCell ⟨bx, 34 + c * 2 + 1, none⟩ (.string p.2)).drew = Wy at *
    have hF := HF2.out
    have hFx := HX2.out
    have hN := HN2.out
    have hH := HH2.out
    have hB := HB2.out
    clear HF2 HX2 HN2 HH2 HB2 hbx
    obtain ⟨f', hRB⟩ := rf_rb hF
    have z2 := hRB.cell (2 + c) (by omega)
    have y2 := hRB.frozen (2 + c)
    have z5 := hRB.cell (98 + c) (by omega)
    have y5 := hRB.frozen (98 + c)
    have hNT := rf_ne hF hH (by decide)
    have hk2 : Keep [T] Wy ((Wy.setCell ⟨T, 2 + c, none⟩ (.int .i64 2)).setCell ⟨T, 98 + c, none⟩ (.pointer (some ⟨bx, 0, none⟩))) := (((Keep.refl [T] Wy).setCell (p := ⟨T, 2 + c, none⟩) (by simp) (.int .i64 2)).setCell (p := ⟨T, 98 + c, none⟩) (by simp) (.pointer (some ⟨bx, 0, none⟩)))
    have hF2 := hF.setKid hc32 hFx
    have hN2 := NdR.keepF (KeepF.ofKeep hk2) (fun x hx => rb_types hRB x (List.mem_singleton.1 hx)) _ _ hN
    have hH2 := Blk.keep hH hk2 (by simp; exact hNT)
    have hB2 : Below w.heap.size w ((Wy.setCell ⟨T, 2 + c, none⟩ (.int .i64 2)).setCell ⟨T, 98 + c, none⟩ (.pointer (some ⟨bx, 0, none⟩))) := ((hB.setCell (p := ⟨T, 2 + c, none⟩) hTge (.int .i64 2)).setCell (p := ⟨T, 98 + c, none⟩) hTge (.pointer (some ⟨bx, 0, none⟩)))
    have hdr := (Below.refl ((Wy.setCell ⟨T, 2 + c, none⟩ (.int .i64 2)).setCell ⟨T, 98 + c, none⟩ (.pointer (some ⟨bx, 0, none⟩))).heap.size ((Wy.setCell ⟨T, 2 + c, none⟩ (.int .i64 2)).setCell ⟨T, 98 + c, none⟩ (.pointer (some ⟨bx, 0, none⟩)))).drew
    have HF2 := Lib.hid (RfN.below _ hF2 hdr)
    have HN2 := Lib.hid (NdR.below _ hN2 hdr)
    have HH2 := Lib.hid (hH2.below hdr)
    have HB2 := Lib.hid hB2.drew
    have hkn := hk.set (c := c) (x := none) (Known.empty.set (c := c) (x := some p) Known.no (.inr rfl) (fun p' e => by obtain rfl := Option.some.inj e; exact ⟨hp1, hp2⟩)) (.inl rfl) (fun p' e => by cases e)
    clear hk2 hF2 hN2 hH2 hB2 hdr hRB hF hFx hN hH hB hNT hk
    go_upto_region 11 with (fail)
    refine wp_region_late (S := fun w' => True) (st := 8) (by kernel_rfl) ?_
    have hS : True := trivial
    refine wpAnyL_take0 (i := 0) (oi := { dst := some 55, op := Go.Op.move (Go.Operand.tmp 13), type := 37, pos := "law.go:138", after := #[], guard := none }) (v := .pointer (some ⟨T, 0, none⟩)) rfl (by kernel_rfl) (by kernel_rfl) (by kernel_rfl) (by kernel_rfl) (fun _ _ _ h => h) hS (Or.inl ⟨by rfl, fun w hSw => ?_⟩) ?_
    · go_split_ands
      go_simp
    try simp only [Act.put, List.setIfInBounds_toArray, List.set_cons_zero, List.set_cons_succ]
    refine wpAnyL_take0 (i := 1) (oi := { dst := some 56, op := Go.Op.move (Go.Operand.tmp 14), type := 3, pos := "law.go:138", after := #[], guard := none }) (v := .int .i64 c) rfl (by kernel_rfl) (by kernel_rfl) (by kernel_rfl) (by kernel_rfl) (fun _ _ _ h => h) hS (Or.inl ⟨by rfl, fun w hSw => ?_⟩) ?_
    · go_split_ands
      go_simp
    try simp only [Act.put, List.setIfInBounds_toArray, List.set_cons_zero, List.set_cons_succ]
    refine wpAnyL_take0 (i := 2) (oi := { dst := some 57, op := Go.Op.move (Go.Operand.tmp 13), type := 37, pos := "law.go:138", after := #[{ on := 8, ground := Go.Ground.gcOnly Go.Departure.lateStores }], guard := none }) (v := .pointer (some ⟨T, 0, none⟩)) rfl (by kernel_rfl) (by kernel_rfl) (by kernel_rfl) (by kernel_rfl) (fun _ _ _ h => h) hS (Or.inl ⟨by rfl, fun w hSw => ?_⟩) ?_
    · go_split_ands
      go_simp
    try simp only [Act.put, List.setIfInBounds_toArray, List.set_cons_zero, List.set_cons_succ]
    refine wpAnyL_take0 (i := 3) (oi := { dst := some 58, op := Go.Op.move (Go.Operand.tmp 14), type := 3, pos := "law.go:138", after := #[{ on := 8, ground := Go.Ground.gcOnly Go.Departure.lateStores }], guard := none }) (v := .int .i64 c) rfl (by kernel_rfl) (by kernel_rfl) (by kernel_rfl) (by kernel_rfl) (fun _ _ _ h => h) hS (Or.inl ⟨by rfl, fun w hSw => ?_⟩) ?_
    · go_split_ands
      go_simp
    try simp only [Act.put, List.setIfInBounds_toArray, List.set_cons_zero, List.set_cons_succ]
    refine wpAnyL_take0 (i := 4) (oi := { dst := some 59, op := Go.Op.move (Go.Operand.tmp 15), type := 37, pos := "law.go:138", after := #[{ on := 8, ground := Go.Ground.gcOnly Go.Departure.lateStores }], guard := none }) (v := .pointer (some ⟨bx, 0, none⟩)) rfl (by kernel_rfl) (by kernel_rfl) (by kernel_rfl) (by kernel_rfl) (fun _ _ _ h => h) hS (Or.inl ⟨by rfl, fun w hSw => ?_⟩) ?_
    · go_split_ands
      go_simp
    try simp only [Act.put, List.setIfInBounds_toArray, List.set_cons_zero, List.set_cons_succ]
    refine wpAnyL_take0 (i := 5) (oi := { dst := some 60, op := Go.Op.nilCheck (Go.Operand.tmp 55), type := 0, pos := "law.go:138", after := #[{ on := 0, ground := Go.Ground.data }], guard := none }) (v := .pointer (some ⟨T, 0, none⟩)) rfl (by kernel_rfl) (by kernel_rfl) (by kernel_rfl) (by kernel_rfl) (fun _ _ _ h => h) hS (Or.inl ⟨by rfl, fun w hSw => ?_⟩) ?_
    · go_split_ands
      go_simp
    try simp only [Act.put, List.setIfInBounds_toArray, List.set_cons_zero, List.set_cons_succ]
    refine wpAnyL_take0 (i := 6) (oi := { dst := some 61, op := Go.Op.fieldAddr 60 (Go.Operand.tmp 60) 2, type := 0, pos := "law.go:138", after := #[{ on := 5, ground := Go.Ground.data }], guard := none }) (v := .pointer (some ⟨T, 2, none⟩)) rfl (by kernel_rfl) (by kernel_rfl) (by kernel_rfl) (by kernel_rfl) (fun _ _ _ h => h) hS (Or.inl ⟨by rfl, fun w hSw => ?_⟩) ?_
    · go_split_ands
      go_simp
    try simp only [Act.put, List.setIfInBounds_toArray, List.set_cons_zero, List.set_cons_succ]
    refine wpAnyL_take0 (i := 9) (oi := { dst := some 63, op := Go.Op.nilCheck (Go.Operand.tmp 57), type := 0, pos := "law.go:138", after := #[{ on := 2, ground := Go.Ground.data }], guard := none }) (v := .pointer (some ⟨T, 0, none⟩)) rfl (by kernel_rfl) (by kernel_rfl) (by kernel_rfl) (by kernel_rfl) (fun _ _ _ h => h) hS (Or.inl ⟨by rfl, fun w hSw => ?_⟩) ?_
    · go_split_ands
      go_simp
    try simp only [Act.put, List.setIfInBounds_toArray, List.set_cons_zero, List.set_cons_succ]
    refine wpAnyL_take0 (i := 10) (oi := { dst := some 64, op := Go.Op.fieldAddr 60 (Go.Operand.tmp 63) 4, type := 0, pos := "law.go:138", after := #[{ on := 9, ground := Go.Ground.data }], guard := none }) (v := .pointer (some ⟨T, 98, none⟩)) rfl (by kernel_rfl) (by kernel_rfl) (by kernel_rfl) (by kernel_rfl) (fun _ _ _ h => h) hS (Or.inl ⟨by rfl, fun w hSw => ?_⟩) ?_
    · go_split_ands
      go_simp
    try simp only [Act.put, List.setIfInBounds_toArray, List.set_cons_zero, List.set_cons_succ]
    refine wpAnyL_ready (rs := [7]) (by kernel_rfl) (by simp) ?_
    refine AllReadyL.cons (o := { dst := some 62, op := Go.Op.indexAddr 56 (Go.Operand.tmp 61) (Go.Operand.tmp 56), type := 0, pos := "law.go:138", after := #[{ on := 6, ground := Go.Ground.data }, { on := 1, ground := Go.Ground.data }, { on := 0, ground := Go.Ground.phase }, { on := 1, ground := Go.Ground.phase }, { on := 2, ground := Go.Ground.textOnly Go.Departure.lateStores }, { on := 3, ground := Go.Ground.textOnly Go.Departure.lateStores }, { on := 4, ground := Go.Ground.textOnly Go.Departure.lateStores }], guard := none }) rfl (fun K hK => ?_) AllReadyL.nil
    go_simp
    refine hK.out _ _ (fun _ => trivial) ?_
    clear hK K
    try simp only [Act.put, List.setIfInBounds_toArray, List.set_cons_zero, List.set_cons_succ]
    refine wpAnyL_ready (rs := [8]) (by kernel_rfl) (by simp) ?_
    refine AllReadyL.cons (o := { dst := none, op := Go.Op.store 3 (Go.Operand.tmp 62) (Go.Operand.const (Go.Value.int Go.IntKind.i64 2)), type := 0, pos := "law.go:138", after := #[{ on := 7, ground := Go.Ground.data }, { on := 0, ground := Go.Ground.phase }, { on := 1, ground := Go.Ground.phase }, { on := 2, ground := Go.Ground.textOnly Go.Departure.lateStores }, { on := 3, ground := Go.Ground.textOnly Go.Departure.lateStores }, { on := 4, ground := Go.Ground.textOnly Go.Departure.lateStores }], guard := none }) rfl (fun K hK => ?_) AllReadyL.nil
    go_simp
    refine hK.out _ _ (late_no (by kernel_rfl)) ?_
    clear hK K
    try simp only [Act.put, List.setIfInBounds_toArray, List.set_cons_zero, List.set_cons_succ]
    refine wpAnyL_ready (rs := [11]) (by kernel_rfl) (by simp) ?_
    refine AllReadyL.cons (o := { dst := some 65, op := Go.Op.indexAddr 58 (Go.Operand.tmp 64) (Go.Operand.tmp 58), type := 0, pos := "law.go:138", after := #[{ on := 10, ground := Go.Ground.data }, { on := 3, ground := Go.Ground.data }, { on := 0, ground := Go.Ground.phase }, { on := 1, ground := Go.Ground.phase }, { on := 2, ground := Go.Ground.phase }, { on := 3, ground := Go.Ground.phase }, { on := 4, ground := Go.Ground.phase }, { on := 5, ground := Go.Ground.phase }, { on := 6, ground := Go.Ground.phase }, { on := 7, ground := Go.Ground.phase }, { on := 8, ground := Go.Ground.phase }], guard := none }) rfl (fun K hK => ?_) AllReadyL.nil
    go_simp
    refine hK.out _ _ (late_no (by kernel_rfl)) ?_
    clear hK K
    try simp only [Act.put, List.setIfInBounds_toArray, List.set_cons_zero, List.set_cons_succ]
    refine wpAnyL_ready (rs := [12]) (by kernel_rfl) (by simp) ?_
    refine AllReadyL.cons (o := { dst := none, op := Go.Op.store 37 (Go.Operand.tmp 65) (Go.Operand.tmp 59), type := 0, pos := "law.go:138", after := #[{ on := 11, ground := Go.Ground.data }, { on := 4, ground := Go.Ground.data }, { on := 8, ground := Go.Ground.chain }, { on := 0, ground := Go.Ground.phase }, { on := 1, ground := Go.Ground.phase }, { on := 2, ground := Go.Ground.phase }, { on := 3, ground := Go.Ground.phase }, { on := 4, ground := Go.Ground.phase }, { on := 5, ground := Go.Ground.phase }, { on := 6, ground := Go.Ground.phase }, { on := 7, ground := Go.Ground.phase }, { on := 8, ground := Go.Ground.phase }], guard := none }) rfl (fun K hK => ?_) AllReadyL.nil
    go_simp
    refine hK.out _ _ (late_no (by kernel_rfl)) ?_
    clear hK K
    try simp only [Act.put, List.setIfInBounds_toArray, List.set_cons_zero, List.set_cons_succ]
    refine wpAnyL_done (by kernel_rfl) ?_ _
    clear z2 y2 z5 y5 hS
    have HFF := Lib.hid (HF.out _ N5 b1 T nb _ _ _ HB2.out HN2.out HF2.out hkn (by omega) (by omega) HH2.out)
    clear HF HB2 HN2 HF2 HH2
    try dsimp only
    repeat (first | exact HFF.out _ _ _ _ _ _ _ _ _ _ _ _ _ _ _ _ _ _ _ _ _ _ _ _ _ _ _ _ _ _ _ _ _ _ _ _ _ _ _ _ _ _ _ _ _ _ _ _ _ _ _ _ _ _ _ _ _ _ _ _ _ _ _ _ _ _ _ _ _ _ _ _ _ _ _ _ _ _ _ _ _ _ _ _ _ _ _ _ _ _ _ _ _ _ _ _ _ _ _ _ _ _ _ _ _ _ _ _ _ _ _ _ _ _ _ _ _ _ _ _ _ _ _ | go_step)


/-! ### THE ROW's STEP -/
set_option maxRecDepth 100000 in
theorem lifted (os : Os) (started : os.Started) (H : Type) (enc : TypeId × Value → H) :
    ReturnsInHanded {} Tryz.checked os 5 .any (Rows.shapeBendsSpec.pre6 enc Tryz.prog Tryz.f5 Rows.shapeBendsRow.domain false) (Rows.shapeBendsSpec.post enc Tryz.prog Tryz.f5 false true false false) := by
  refine returnsInHanded_of_change (C := Tryz.checked) own started (by kernel_rfl) Tryz.func5
    (ChangeSpec.witness6 (enc := enc) (C := Tryz.checked) false ⟨#[], #[.agg #[.int .u64 0, .int .u64 0, .int .u64 0], .slice none 0 0, .int .u8 0, .agg #[.string ByteArray.empty, .string ByteArray.empty], .int .u8 0], []⟩ 8 (by kernel_rfl) (by kernel_rfl) (by kernel_rfl) (by kernel_rfl)) ?_
  intro W base args ds gs before hval0 hW hcnd _
  have hval : ∀ (j : Nat) t v, Tryz.f5.params[j]? = some t → args[j]? = some v → Value.okWide Tryz.prog W .any base t v := hval0
  have hW' := hW
  obtain ⟨p, q, hA0, hV, rfl, hfz, hnd⟩ := hW
  have hA : DataW.TrodAll enc Tryz.prog W 0 (fun _ => true) true Tryz.f5.params.toList args.toList ds p := hA0
  rw [Tryz.params5] at hA hval
  obtain ⟨v0, vs0, d0, ds0, p0, q0, hargs, rfl, rfl, h0, r0⟩ := trodAll_cons hA
  obtain ⟨v1, vs1, d1, ds1, p1, q1, rfl, rfl, rfl, h1, r1⟩ := trodAll_cons r0
  obtain ⟨v2, vs2, d2, ds2, p2, q2, rfl, rfl, rfl, h2, r2⟩ := trodAll_cons r1
  obtain ⟨v3, vs3, d3, ds3, p3, q3, rfl, rfl, rfl, h3, r3⟩ := trodAll_cons r2
  obtain ⟨v4, vs4, d4, ds4, p4, q4, rfl, rfl, rfl, h4, r4⟩ := trodAll_cons r3
  obtain ⟨rfl, rfl, rfl⟩ := trodAll_nil r4
  obtain rfl : args = #[v0, v1, v2, v3, v4] := by cases args; simp_all
  obtain ⟨rfl, rfl⟩ := trodVars_none hV
  have k0 := h0
  have lt0 : ∀ x ∈ p0, x.block < W.heap.size := by obtain ⟨m, hm⟩ := k0; exact DataW.trod_lt m _ _ _ hm
  obtain ⟨x0, y0, m0, rfl, u0, t0, r0_⟩ := open_hasher (hval 0 26 v0 rfl rfl) h0
  obtain ⟨a1, len1, cap1, rfl⟩ := okWide_slice Tryz.underlying27 (hval 1 27 v1 rfl rfl)
  have k1 := h1
  have lt1 : ∀ x ∈ p1, x.block < W.heap.size := by obtain ⟨m, hm⟩ := k1; exact DataW.trod_lt m _ _ _ hm
  obtain ⟨z1, w1⟩ := open_pairs h1
  have k2 := h2
  have lt2 : ∀ x ∈ p2, x.block < W.heap.size := by obtain ⟨m, hm⟩ := k2; exact DataW.trod_lt m _ _ _ hm
  obtain ⟨a2, rfl, rfl, rfl, w2⟩ := open_int Tryz.underlying5 (hval 2 5 v2 rfl rfl) h2
  have k3 := h3
  have lt3 : ∀ x ∈ p3, x.block < W.heap.size := by obtain ⟨m, hm⟩ := k3; exact DataW.trod_lt m _ _ _ hm
  obtain ⟨x3, y3, rfl, s3⟩ := open_pair (hval 3 52 v3 rfl rfl) h3
  have k4 := h4
  have lt4 : ∀ x ∈ p4, x.block < W.heap.size := by obtain ⟨m, hm⟩ := k4; exact DataW.trod_lt m _ _ _ hm
  obtain ⟨a4, rfl, rfl, rfl, w4⟩ := open_int Tryz.underlying5 (hval 4 5 v4 rfl rfl) h4
  clear hA0 hval0
  refine (walk x0 y0 m0 a1 len1 cap1 z1 a2 x3 y3 a4 W u0 t0 w1 w2 w4).mono fun e W' ⟨he, bel⟩ => ?_
  subst he
  exact ⟨_, rfl, _, _, _, [], _, [], hW', trodAll_mk1 (shut_bool Tryz.underlying4 _), (trodAll_cons_mk (Below.trod laidOut (by kernel_rfl) (of_decide_eq_true (by kernel_rfl)) k0 bel lt0) (trodAll_cons_mk (Below.trod laidOut (by kernel_rfl) (of_decide_eq_true (by kernel_rfl)) k1 bel lt1) (trodAll_cons_mk (Below.trod laidOut (by kernel_rfl) (of_decide_eq_true (by kernel_rfl)) k2 bel lt2) (trodAll_cons_mk (Below.trod laidOut (by kernel_rfl) (of_decide_eq_true (by kernel_rfl)) k3 bel lt3) (trodAll_cons_mk (Below.trod laidOut (by kernel_rfl) (of_decide_eq_true (by kernel_rfl)) k4 bel lt4) trodAll_mk0))))), rfl, bel.frame _, fun h => by cases h⟩

theorem over : Rows.shapeBendsRow.holds Tryz.pinned (OpenSpec.ofChange Rows.shapeBendsSpec) :=
  OpenClaim.holds_of_wide 5 Tryz.f5 rfl rfl rfl rfl rfl rfl rfl ⟨rfl, rfl, rfl, rfl, rfl⟩ rfl rfl rfl rfl rfl (by kernel_rfl) Tryz.func5 (by kernel_rfl)
    (of_decide_eq_true (by kernel_rfl)) (by unfold Func.isWrapper; first | (rw [if_pos (by decide +kernel)]; kernel_rfl) | (rw [if_neg (by decide +kernel)]; exact ⟨rfl, rfl⟩))
    (fun os started H enc _ => lifted os started H enc)

theorem proved : Rows.ShapeBendsSaid := over
#print axioms proved
end Go.Proofs.YtchimfgbdfmegaaGreat.shapeBends
