/- The reference's Set. -/
import Derived.Test.YtgldgdpgbfejmaaXc
import Derived.BigRegion
import Derived.Deep.RegionHeld3
namespace Go.Proofs.Ytgldgdpgbfejmaa
open Go.RowKit Go.Lib
set_option linter.unusedVariables false
set_option linter.unusedSimpArgs false
/-- a copy's owner -/
def rnOf (r : RN) (who : Nat) (lv : List Bool) : RN := { r with ow := if liveB who lv = true then who else 0 }
/-- the nodes behind 'own', and the place of the one that may be changed -/
def nsOf (ns : List (RN × Value)) (own : Bool) (x : RN × Value) : List (RN × Value) := if own = true then ns else ns ++ [x]
theorem nsOf_len (ns : List (RN × Value)) (own : Bool) (x : RN × Value) : (nsOf ns own x).length ≤ ns.length + 1 := by
  unfold nsOf
  cases own <;> simp
def atOf (ns : List (RN × Value)) (own : Bool) (n : Nat) : Nat := if own = true then n else ns.length
def OwnPost2 (base xb n : Nat) (Lv : Value) (ns : List (RN × Value)) (lv : List Bool) (own : Bool) (rn : RN) (w : World) (e : Ending) (w' : World) : Prop :=
  ∃ Nv' vl, e = .returned (.int .i64 (atOf ns own n : Nat)) ∧ RefA base w' xb Nv' Lv (nsOf ns own (rn, vl)) lv ∧ (nsOf ns own (rn, vl))[atOf ns own n]? = some (rn, vl) ∧ KeepA base w w'
theorem refOwn_any (base xb n who : Nat) (Nv Lv : Value) (ns : List (RN × Value)) (lv : List Bool) (r : RN × Value) (w : World) (h : RefA base w xb Nv Lv ns lv) (hr : ns[n]? = some r) (hw : who < lv.length) (hn : ns.length ≤ 1000) (hln : lv.length ≤ 1000) (hL : r.1.L.length ≤ 900) (hbase : base ≤ w.heap.size) :
    Calls Try.prog 67 #[at0 xb, .int .i64 n, .int .i64 who] w (OwnPost2 base xb n Lv ns lv (refOwn r.1 who lv) (rnOf r.1 who lv) w) := by
  have new : ∀ rn, Calls Try.prog 67 #[at0 xb, .int .i64 n, .int .i64 who] w (OwnPost base xb Lv ns lv rn w) → refOwn r.1 who lv = false → rnOf r.1 who lv = rn → Calls Try.prog 67 #[at0 xb, .int .i64 n, .int .i64 who] w (OwnPost2 base xb n Lv ns lv (refOwn r.1 who lv) (rnOf r.1 who lv) w) := by
    intro rn hc ho he
    refine hc.mono ?_
    rintro e w' ⟨Nv', vl, rfl, hA, hK⟩
    rw [ho, he]
    exact ⟨Nv', vl, rfl, hA, by simp [nsOf, atOf], hK⟩
  by_cases h0 : who = 0
  · subst h0
    exact new _ (own_zero base xb n 0 Nv Lv ns lv r w h hr rfl hn hln hL hbase) (by simp [refOwn, liveB]) (by simp [rnOf, liveB])
  · have hl := List.getElem?_eq_getElem hw
    cases hb : lv[who] with
    | false =>
      rw [hb] at hl
      exact new _ (own_dead base xb n who Nv Lv ns lv r w h hr (by omega) hl hn hln hL hbase) (by simp [refOwn, liveB, hl]) (by simp [rnOf, liveB, hl])
    | true =>
      rw [hb] at hl
      by_cases ho : r.1.ow = who
      · refine (own_same base xb n who Nv Lv ns lv r w h hr (by omega) hl ho hn hln).mono ?_
        rintro e w' ⟨rfl, rfl⟩
        have e1 : refOwn r.1 who lv = true := by simp [refOwn, liveB, hl, ho]; omega
        have e2 : rnOf r.1 who lv = r.1 := by
          have : liveB who lv = true := by simp [liveB, hl]; omega
          unfold rnOf
          rw [if_pos this, ← ho]
        rw [e1, e2]
        exact ⟨Nv, r.2, rfl, h, by simpa [nsOf, atOf] using hr, KeepA.refl _ _⟩
      · exact new _ (own_other base xb n who Nv Lv ns lv r w h hr (by omega) hl ho hn hln hL hbase) (by simp [refOwn, liveB, hl, ho]) (by
          have : liveB who lv = true := by simp [liveB, hl]; omega
          unfold rnOf
          rw [if_pos this])
theorem rrow_cut (ns : List (RN × Value)) (k : Nat) (n : RN × Value) (h : ns[k]? = some n) : rrow ns = rrow (ns.take k) ++ (rcells n.1 n.2 ++ rrow (ns.drop (k + 1))) ∧ ∀ n', rrow (ns.set k n') = rrow (ns.take k) ++ (rcells n'.1 n'.2 ++ rrow (ns.drop (k + 1))) := by
  obtain ⟨hl, he⟩ := List.getElem?_eq_some_iff.1 h
  have e1 : ns = ns.take k ++ (n :: ns.drop (k + 1)) := by
    rw [← he, List.getElem_cons_drop, List.take_append_drop]
  constructor
  · conv => lhs; rw [e1]
    simp [rrow]
  · intro n'
    rw [List.set_eq_take_append_cons_drop, if_pos hl]
    simp [rrow]
theorem set_mid (A M B : List Value) (m j : Nat) (v : Value) (hA : A.length = m) (hj : j < M.length) : (A ++ (M ++ B)).set (m + j) v = A ++ (M.set j v ++ B) := by
  rw [List.set_append_right _ _ (by omega), hA, Nat.add_sub_cancel_left, List.set_append_left _ _ hj]
theorem rrow_put (ns : List (RN × Value)) (k : Nat) (r : RN) (vl : Value) (h : ns[k]? = some (r, vl)) (i : Nat) (x : Sl) (hi : i < 32) :
    ((((rrow ns).set (k * 131 + (1 + i)) (.int .i64 x.isN)).set (k * 131 + (33 + i * 2)) (.string x.prN.1)).set (k * 131 + (33 + i * 2 + 1)) (.string x.prN.2)).set (k * 131 + (97 + i)) (.int .i64 (x.kdN : Nat)) = rrow (ns.set k ({ r with S := r.S.put i x }, vl)) := by
  obtain ⟨e1, e2⟩ := rrow_cut ns k (r, vl) h
  have hl := (List.getElem?_eq_some_iff.1 h).1
  have hA : (rrow (ns.take k)).length = k * 131 := by rw [rrow_len, List.length_take]; congr 1; omega
  rw [e1, e2]
  rw [set_mid _ _ _ _ _ _ hA (by rw [rcells_len]; omega), set_mid _ _ _ _ _ _ hA (by rw [List.length_set, rcells_len]; omega), set_mid _ _ _ _ _ _ hA (by rw [List.length_set, List.length_set, rcells_len]; omega), set_mid _ _ _ _ _ _ hA (by rw [List.length_set, List.length_set, List.length_set, rcells_len]; omega), rcells_set r vl i x hi]
/-- what Set leaves -/
def SetPost (base xb n : Nat) (Lv : Value) (ns : List (RN × Value)) (lv : List Bool) (own : Bool) (rn : RN) (i : Nat) (x : Sl) (w : World) (e : Ending) (w' : World) : Prop :=
  ∃ Nv' vl, e = .returned (.int .i64 (atOf ns own n : Nat)) ∧ RefA base w' xb Nv' Lv ((nsOf ns own (rn, vl)).set (atOf ns own n) ({ rn with S := rn.S.put i x }, vl)) lv ∧ KeepA base w w'
theorem KeepA.cellOf {base : Nat} {w w' : World} (h : KeepA base w w') {b : Nat} {t : TypeId} {cs : Array Value} (hb : Blk w b t cs) (h85 : t ≠ 85) (h89 : t ≠ 89) : Blk w' b t cs :=
  (h.block b hb.lt (fun c f e => by unfold Blk at hb; rw [hb] at e; cases e; exact h85 rfl) (fun c f e => by unfold Blk at hb; rw [hb] at e; cases e; exact h89 rfl)).trans hb
theorem RefA.put {base : Nat} {w : World} {xb : Nat} {Lv : Value} {ns : List (RN × Value)} {lv : List Bool} {g cap : Nat} (h : RefA base w xb (.slice (some ⟨g, 0, none⟩) ns.length cap) Lv ns lv) (k : Nat) (r : RN) (vl : Value) (hk : ns[k]? = some (r, vl)) (i : Nat) (x : Sl) (hi : i < 32) :
    RefA base ((((w.setCell ⟨g, k * 131 + 1 + i, none⟩ (.int .i64 x.isN)).setCell ⟨g, k * 131 + 33 + i * 2, none⟩ (.string x.prN.1)).setCell ⟨g, k * 131 + 33 + i * 2 + 1, none⟩ (.string x.prN.2)).setCell ⟨g, k * 131 + 97 + i, none⟩ (.int .i64 (x.kdN : Nat))) xb (.slice (some ⟨g, 0, none⟩) ns.length cap) Lv (ns.set k ({ r with S := r.S.put i x }, vl)) lv ∧
    KeepA base w ((((w.setCell ⟨g, k * 131 + 1 + i, none⟩ (.int .i64 x.isN)).setCell ⟨g, k * 131 + 33 + i * 2, none⟩ (.string x.prN.1)).setCell ⟨g, k * 131 + 33 + i * 2 + 1, none⟩ (.string x.prN.2)).setCell ⟨g, k * 131 + 97 + i, none⟩ (.int .i64 (x.kdN : Nat))) := by
  have hn := h.nodes
  obtain ⟨cs, hcs⟩ := own_cells hn g rfl
  have hgb := own_ge hn g rfl
  have hx : xb ≠ g := fun e => by
    have h1 := h.blk
    rw [e] at h1; unfold Blk at h1; rw [h1] at hcs; cases hcs
  have hL : Lv.ownBlock ≠ some g := own_ne h.live (fun cur e => by rw [hcs] at e; cases e)
  have hl : ∀ m ∈ ns, m.2.ownBlock ≠ some g := fun m hm => own_ne (h.ls m hm) (fun cur e => by rw [hcs] at e; cases e)
  have s1 := (hn.stored (k * 131 + 1 + i) (.int .i64 x.isN)).1
  have s2 := (s1.stored (k * 131 + 33 + i * 2) (.string x.prN.1)).1
  have s3 := (s2.stored (k * 131 + 33 + i * 2 + 1) (.string x.prN.2)).1
  have s4 := (s3.stored (k * 131 + 97 + i) (.int .i64 (x.kdN : Nat))).1
  have er := rrow_put ns k r vl hk i x hi
  simp only [← Nat.add_assoc] at er
  rw [er] at s4
  refine ⟨⟨(((h.blk.far (p := ⟨g, _, none⟩) hx _).far (p := ⟨g, _, none⟩) hx _).far (p := ⟨g, _, none⟩) hx _).far (p := ⟨g, _, none⟩) hx _, h.ge, by rw [List.length_set]; exact s4, ownsRow_setCell_other (ownsRow_setCell_other (ownsRow_setCell_other (ownsRow_setCell_other h.live hL _) hL _) hL _) hL _, fun m hm => ?_⟩, ?_⟩
  · rcases List.mem_or_eq_of_mem_set hm with hm | rfl
    · exact ownsRow_setCell_other (ownsRow_setCell_other (ownsRow_setCell_other (ownsRow_setCell_other (h.ls m hm) (hl m hm) _) (hl m hm) _) (hl m hm) _) (hl m hm) _
    · have hm := List.mem_of_getElem? hk
      exact ownsRow_setCell_other (ownsRow_setCell_other (ownsRow_setCell_other (ownsRow_setCell_other (h.ls _ hm) (hl _ hm) _) (hl _ hm) _) (hl _ hm) _) (hl _ hm) _
  · refine ⟨((((Below.refl base w).setCell (p := ⟨g, _, none⟩) hgb _).setCell (p := ⟨g, _, none⟩) hgb _).setCell (p := ⟨g, _, none⟩) hgb _).setCell (p := ⟨g, _, none⟩) hgb _, fun b hb h85 _ => ?_⟩
    have hne : b ≠ g := fun e => h85 _ _ (by rw [e]; exact hcs)
    rw [Below.heap_setCell _ _ _ _ hne, Below.heap_setCell _ _ _ _ hne, Below.heap_setCell _ _ _ _ hne, Below.heap_setCell _ _ _ _ hne]
theorem KeepA.drewN {base : Nat} {w w' : World} (h : KeepA base w w') (n : Nat) : KeepA base w (w'.drewN n) := ⟨⟨h.below.os, h.below.tape, h.below.output, h.below.size, h.below.block⟩, h.block⟩
set_option maxRecDepth 100000 in
set_option maxHeartbeats 8000000 in
theorem refSet_in (base xb n who i : Nat) (x : Sl) (Nv Lv : Value) (ns : List (RN × Value)) (lv : List Bool) (r : RN × Value) (w : World) (h : RefA base w xb Nv Lv ns lv) (hr : ns[n]? = some r) (hw : who < lv.length) (hi : i < 32) (hbk : r.1.bk = false) (hn : ns.length ≤ 900) (hln : lv.length ≤ 1000) (hL : r.1.L.length ≤ 900) (hbase : base ≤ w.heap.size) :
    Calls Try.prog 48 #[at0 xb, .int .i64 n, .int .i64 who, .int .i64 i, .int .i64 x.isN, .agg #[.string x.prN.1, .string x.prN.2], .int .i64 (x.kdN : Nat)] w (SetPost base xb n Lv ns lv (refOwn r.1 who lv) (rnOf r.1 who lv) i x w) := by
  obtain ⟨pk, hpk⟩ : ∃ pk, pk = x.prN.1 := ⟨_, rfl⟩
  obtain ⟨pu, hpu⟩ : ∃ pu, pu = x.prN.2 := ⟨_, rfl⟩
  obtain ⟨kk, hkk⟩ : ∃ kk, kk = x.kdN := ⟨_, rfl⟩
  obtain ⟨ii, hii⟩ : ∃ ii, ii = x.isN := ⟨_, rfl⟩
  rw [← hpk, ← hpu, ← hkk, ← hii]
  have HX := Lib.hid (⟨hpk, hpu, hkk, hii⟩ : pk = x.prN.1 ∧ pu = x.prN.2 ∧ kk = x.kdN ∧ ii = x.isN)
  clear hpk hpu hkk hii
  have hB0 := (Below.refl _ w).alloc (Nat.le_refl _) (.cells #[.string pk, .string pu] 81)
  have hbx := Blk.new w 81 #[.string pk, .string pu]
  have hA0 := h.below hB0
  obtain ⟨c0, c1⟩ := hA0.cells
  obtain ⟨g, cap, e, hlt, hrg, hfz⟩ := hA0.node n r hr
  have hcb : (w.alloc (.cells #[.string pk, .string pu] 81)).cell? ⟨g, n * 131, none⟩ = some (.bool false) := by
    have := hrg 0 _ (rcells_get r.1 r.2 0 (by omega))
    rw [Nat.add_zero] at this
    rw [this, rcell_bk, hbk]
  have B2 : (n : Int) < (ns.length : Int) := by omega
  have Bi : (i : Int) < 32 := by omega
  have Bi2 : ¬ (31 < (i : Int)) := by omega
  rw [e] at c0
  have HOwn := Lib.hid (refOwn_any base xb n who Nv Lv ns lv r _ hA0 hr hw (by omega) hln hL (Nat.le_trans hbase hB0.size))
  clear h hrg hfz e
  unfold at0
  go_enter Try.func48, Try.ntmps48
  go_upto_region 1 with (fail)
  generalize w.alloc (.cells #[.string pk, .string pu] 81) = W at *
  obtain ⟨N, hN⟩ : ∃ N, N = w.heap.size := ⟨_, rfl⟩
  rw [← hN] at hbx ⊢
  have HN := Lib.hid hN
  clear hN
  go_wp2_with fail
  have hown := HOwn.out
  unfold at0 at hown
  refine hown.mono ?_
  rintro e w1 ⟨Nv', vl, rfl, hA1, hat, hK1⟩
  have hbx1 := hK1.cellOf hbx (by decide) (by decide)
  obtain ⟨rn, hrn⟩ : ∃ rn, rn = rnOf r.1 who lv := ⟨_, rfl⟩
  obtain ⟨own, hownb⟩ : ∃ own, own = refOwn r.1 who lv := ⟨_, rfl⟩
  rw [← hrn, ← hownb] at hA1 hat
  rw [← hownb]
  obtain ⟨ns1, hns1⟩ : ∃ ns1, ns1 = nsOf ns own (rn, vl) := ⟨_, rfl⟩
  obtain ⟨at1, hat1⟩ : ∃ at1, at1 = atOf ns own n := ⟨_, rfl⟩
  rw [← hns1] at hA1 hat
  rw [← hat1] at hat ⊢
  have hl1 : ns1.length ≤ 1000 := by rw [hns1]; have := nsOf_len ns own (rn, vl); omega
  obtain ⟨g1, cap1, rfl, hlt1, hrg1, hfz1⟩ := hA1.node at1 (rn, vl) hat
  obtain ⟨d0, d1⟩ := hA1.cells
  have HS := Lib.hid (⟨hrn, hownb, hns1, hat1⟩ : rn = rnOf r.1 who lv ∧ own = refOwn r.1 who lv ∧ ns1 = nsOf ns own (rn, vl) ∧ at1 = atOf ns own n)
  have HA1 := Lib.hid hA1
  have HK1 := Lib.hid hK1
  have HAT := Lib.hid hat
  clear hrn hownb hns1 hat1 hA1 hK1 hown HOwn c0 c1 hcb hbx hA0 hat
  have e0 : w1.cell? ⟨N, 0, none⟩ = some (.string pk) := hbx1.cell 0
  have e1 : w1.cell? ⟨N, 1, none⟩ = some (.string pu) := hbx1.cell 1
  have B3 : (at1 : Int) < (ns1.length : Int) := by omega
  have z1 : w1.cell? ⟨g1, at1 * 131 + 1 + i, none⟩ = some (.int .i64 (rn.S i).isN) := by
    have := hrg1 (1 + i) _ (rcells_get _ _ _ (by omega)); rw [rcell_is _ _ _ hi, ← Nat.add_assoc] at this; exact this
  have z2 : w1.cell? ⟨g1, at1 * 131 + 33 + i * 2, none⟩ = some (.string (rn.S i).prN.1) := by
    have := hrg1 (33 + i * 2) _ (rcells_get _ _ _ (by omega)); rw [rcell_p1 _ _ _ hi, ← Nat.add_assoc] at this; exact this
  have z3 : w1.cell? ⟨g1, at1 * 131 + 33 + i * 2 + 1, none⟩ = some (.string (rn.S i).prN.2) := by
    have := hrg1 (33 + i * 2 + 1) _ (rcells_get _ _ _ (by omega)); rw [rcell_p2 _ _ _ hi, ← Nat.add_assoc, ← Nat.add_assoc] at this; exact this
  have z4 : w1.cell? ⟨g1, at1 * 131 + 97 + i, none⟩ = some (.int .i64 ((rn.S i).kdN : Nat)) := by
    have := hrg1 (97 + i) _ (rcells_get _ _ _ (by omega)); rw [rcell_k _ _ _ hi, ← Nat.add_assoc] at this; exact this
  have y1 := hfz1 (at1 * 131 + 1 + i)
  have y2 := hfz1 (at1 * 131 + 33 + i * 2)
  have y3 := hfz1 (at1 * 131 + 33 + i * 2 + 1)
  have y4 := hfz1 (at1 * 131 + 97 + i)
  have n1 : ¬ (xb = g1) := fun e => by
    have h1 := HA1.out.blk
    obtain ⟨cs, h2⟩ := own_cells HA1.out.nodes g1 rfl
    rw [e] at h1; unfold Blk at h1; rw [h1] at h2; cases h2
  have n2 : ¬ (N = g1) := fun e => by
    obtain ⟨cs, h2⟩ := own_cells HA1.out.nodes g1 rfl
    rw [e] at hbx1; unfold Blk at hbx1; rw [hbx1] at h2; cases h2
  have n3 : ¬ (g1 = xb) := fun e => n1 e.symm
  have n4 : ¬ (g1 = N) := fun e => n2 e.symm
  clear hrg1 hfz1
  go_wp2_with fail
  go_region_held3 (fun w' : World => w'.cell? ⟨xb, 0, none⟩ = some (.slice (some ⟨g1, 0, none⟩) ns1.length cap1) ∧ w'.cell? ⟨N, 0, none⟩ = some (.string pk) ∧ w'.cell? ⟨N, 1, none⟩ = some (.string pu)) (first | exact ⟨d0, e0, e1⟩ | go_keep) (fail)
  have hput := RefA.put HA1.out at1 rn vl HAT.out i x hi
  obtain ⟨q1, q2, q3, q4⟩ := HX.out
  rw [← q1, ← q2, ← q3, ← q4] at hput
  have hKf := (KeepA.ofBelow (base := base) hB0 hbase).trans (HK1.out.trans hput.2)
  clear z1 z2 z3 z4 y1 y2 y3 y4 d0 d1 e0 e1
  go_wp2_with fail
  go_ret
  obtain ⟨t1, t2, t3, t4⟩ := HS.out
  subst t1; subst t2; subst t3; subst t4
  exact ⟨_, vl, rfl, hput.1.drewN 1, hKf.drewN 1⟩
end Go.Proofs.Ytgldgdpgbfejmaa
