/- The slots of a node in memory: clearing a chunk. -/
import Derived.Test.YtchimfgbdfmegaaGreatGad
import Derived.BigQuiet
import Derived.Deep.QuietTactic
import Derived.Deep.RegionHeld3
namespace Go.Proofs.YtchimfgbdfmegaaGreat
open Go.RowKit Go.Lib
set_option linter.unusedVariables false
set_option maxRecDepth 100000
set_option maxRecDepth 100000
set_option linter.unusedSimpArgs false
attribute [local irreducible] cnt
theorem rank_nat (d i : Nat) (w : World) (h : d < 4294967296) : Calls Tryz.prog 71 #[.int .u32 d, .int .i64 i] w fun e w' => e = .returned (.int .i64 (cnt i d)) ∧ ∃ k, w' = w.drewN k := rank_any d i w h
theorem has_nat (d i : Nat) (w : World) (h : d < 4294967296) (hi : i < 32) (b : Bool) (hb : d.testBit i = b) : Calls Tryz.prog 72 #[.int .u32 d, .int .i64 i] w fun e w' => e = .returned (.bool b) ∧ w = w' :=
  (has_any d i w h).mono fun e w' ⟨he, hw⟩ => ⟨by rw [he, has_bit d i hi, hb], hw⟩
/-- the blocks of a node -/
def foot (b : Nat) (pv kv : Value) : List Nat := b :: (pv.ownBlock.toList ++ kv.ownBlock.toList)
/-- a node in memory, field by field -/
structure NdV (base : Nat) (w : World) (b : Nat) (o : Value) (bk : Bool) (d nn : Nat) (pv kv : Value) (xs : List Pr) (ks : List Nat) : Prop where
  blk : Blk w b 100 #[o, .bool bk, .int .u32 d, .int .u32 nn, pv, kv]
  ge : base ≤ b
  prs : Own base w pv xs
  kds : OwnK base w kv ks
section
variable {base : Nat} {w w' : World} {b : Nat} {o : Value} {bk : Bool} {d nn : Nat} {pv kv : Value} {xs : List Pr} {ks : List Nat}
theorem NdV.cells (h : NdV base w b o bk d nn pv kv xs ks) : (w.cell? ⟨b, 0, none⟩ = some o ∧ w.cell? ⟨b, 1, none⟩ = some (.bool bk) ∧ w.cell? ⟨b, 2, none⟩ = some (.int .u32 d) ∧ w.cell? ⟨b, 3, none⟩ = some (.int .u32 nn) ∧ w.cell? ⟨b, 4, none⟩ = some pv ∧ w.cell? ⟨b, 5, none⟩ = some kv) :=
  ⟨h.blk.cell 0, h.blk.cell 1, h.blk.cell 2, h.blk.cell 3, h.blk.cell 4, h.blk.cell 5⟩
theorem NdV.pne (h : NdV base w b o bk d nn pv kv xs ks) : pv.ownBlock ≠ some b := own_ne h.prs (fun cur e => by have := h.blk; unfold Blk at this; rw [this] at e; cases e)
theorem NdV.kne (h : NdV base w b o bk d nn pv kv xs ks) : kv.ownBlock ≠ some b := own_ne h.kds (fun cur e => by have := h.blk; unfold Blk at this; rw [this] at e; cases e)
theorem NdV.pk (h : NdV base w b o bk d nn pv kv xs ks) : ∀ g, pv.ownBlock = some g → kv.ownBlock ≠ some g := by
  intro g hg hg2
  obtain ⟨c1, hc1⟩ := own_cells h.prs g hg
  obtain ⟨c2, hc2⟩ := own_cells h.kds g hg2
  rw [hc1] at hc2
  cases hc2
theorem NdV.keep (h : NdV base w b o bk d nn pv kv xs ks) {X : List Nat} (hk : Keep X w w') (hX : ∀ x ∈ foot b pv kv, x ∉ X) : NdV base w' b o bk d nn pv kv xs ks :=
  ⟨h.blk.keep hk (hX b (by simp [foot])), h.ge, own_keep h.prs hk (fun x hx e => hX x (by simp [foot, e]) hx), own_keep h.kds hk (fun x hx e => hX x (by simp [foot, e]) hx)⟩
theorem NdV.below (h : NdV base w b o bk d nn pv kv xs ks) (hb : Below w.heap.size w w') : NdV base w' b o bk d nn pv kv xs ks := h.keep (Keep.of_below (X := []) hb) (by simp)
theorem NdV.drewN (h : NdV base w b o bk d nn pv kv xs ks) (n : Nat) : NdV base (w.drewN n) b o bk d nn pv kv xs ks := ⟨h.blk, h.ge, h.prs, h.kds⟩
/-- another field's value is stored -/
theorem NdV.setP (h : NdV base w b o bk d nn pv kv xs ks) {pv' : Value} {xs' : List Pr} (hk : Keep pv.ownBlock.toList w w') (hp : Own base w' pv' xs') :
    NdV base (w'.setCell ⟨b, 4, none⟩ pv') b o bk d nn pv' kv xs' ks := by
  have hb : Blk w' b 100 #[o, .bool bk, .int .u32 d, .int .u32 nn, pv, kv] := h.blk.keep hk (fun hm => by have := h.pne; simp at hm; exact this hm)
  have hkk : OwnK base w' kv ks := own_keep h.kds hk (fun x hx e => by simp at hx; exact h.pk x hx e)
  have hne : pv'.ownBlock ≠ some b := own_ne hp (fun cur e => by unfold Blk at hb; rw [hb] at e; cases e)
  exact ⟨hb.set_ 4 pv', h.ge, ownsRow_setCell_other hp hne _, ownsRow_setCell_other hkk h.kne _⟩
theorem NdV.setK (h : NdV base w b o bk d nn pv kv xs ks) {kv' : Value} {ks' : List Nat} (hk : Keep kv.ownBlock.toList w w') (hp : OwnK base w' kv' ks') :
    NdV base (w'.setCell ⟨b, 5, none⟩ kv') b o bk d nn pv kv' xs ks' := by
  have hb : Blk w' b 100 #[o, .bool bk, .int .u32 d, .int .u32 nn, pv, kv] := h.blk.keep hk (fun hm => by have := h.kne; simp at hm; exact this hm)
  have hpp : Own base w' pv xs := own_keep h.prs hk (fun x hx e => by simp at hx; exact h.pk x e hx)
  have hne : kv'.ownBlock ≠ some b := own_ne hp (fun cur e => by unfold Blk at hb; rw [hb] at e; cases e)
  exact ⟨hb.set_ 5 kv', h.ge, ownsRow_setCell_other hpp h.pne _, ownsRow_setCell_other hp hne _⟩
theorem NdV.setD (h : NdV base w b o bk d nn pv kv xs ks) (d' : Nat) : NdV base (w.setCell ⟨b, 2, none⟩ (.int .u32 d')) b o bk d' nn pv kv xs ks :=
  ⟨h.blk.set_ 2 (.int .u32 d'), h.ge, ownsRow_setCell_other h.prs h.pne _, ownsRow_setCell_other h.kds h.kne _⟩
theorem NdV.setN (h : NdV base w b o bk d nn pv kv xs ks) (d' : Nat) : NdV base (w.setCell ⟨b, 3, none⟩ (.int .u32 d')) b o bk d d' pv kv xs ks :=
  ⟨h.blk.set_ 3 (.int .u32 d'), h.ge, ownsRow_setCell_other h.prs h.pne _, ownsRow_setCell_other h.kds h.kne _⟩
theorem NdV.setO (h : NdV base w b o bk d nn pv kv xs ks) (o' : Value) : NdV base (w.setCell ⟨b, 0, none⟩ o') b o' bk d nn pv kv xs ks :=
  ⟨h.blk.set_ 0 o', h.ge, ownsRow_setCell_other h.prs h.pne _, ownsRow_setCell_other h.kds h.kne _⟩
end
theorem Keep.comp {X Y : List Nat} {a b c : World} (h : Keep X a b) (k : Keep Y b c) (hY : ∀ y ∈ Y, y ∈ X ∨ a.heap.size ≤ y) : Keep X a c :=
  ⟨h.all.trans k.all, fun i hi hx => (k.block i (Nat.lt_of_lt_of_le hi h.all.size) (fun hy => by
    rcases hY i hy with e | e
    · exact hx e
    · omega)).trans (h.block i hi hx)⟩
def Moves (b : Nat) (pv kv pv' kv' : Value) (w w' : World) : Prop := SameOrNew pv pv' w.heap.size ∧ SameOrNew kv kv' w.heap.size ∧ Keep (foot b pv kv) w w'
theorem SameOrNew.refl (v : Value) (n : Nat) : SameOrNew v v n := fun g hg => .inl hg
theorem SameOrNew.trans {a b c : Value} {n m : Nat} (h : SameOrNew a b n) (k : SameOrNew b c m) (hnm : n ≤ m) : SameOrNew a c n := fun g hg => by
  rcases k g hg with e | e
  · exact h g e
  · exact .inr (by omega)
theorem Moves.refl (b : Nat) (pv kv : Value) (w : World) : Moves b pv kv pv kv w w := ⟨.refl _ _, .refl _ _, Keep.refl _ _⟩
theorem Moves.trans {b : Nat} {p k p1 k1 p2 k2 : Value} {w w1 w2 : World} (h : Moves b p k p1 k1 w w1) (g : Moves b p1 k1 p2 k2 w1 w2) : Moves b p k p2 k2 w w2 := by
  have hs := h.2.2.all.size
  refine ⟨h.1.trans g.1 hs, h.2.1.trans g.2.1 hs, h.2.2.comp g.2.2 fun y hy => ?_⟩
  simp only [foot, List.mem_cons, List.mem_append, Option.mem_toList] at hy ⊢
  rcases hy with hy | hy | hy
  · exact .inl (.inl hy)
  · rcases h.1 y hy with e | e
    · exact .inl (.inr (.inl e))
    · exact .inr e
  · rcases h.2.1 y hy with e | e
    · exact .inl (.inr (.inr e))
    · exact .inr e
theorem Moves.drewN {b : Nat} {p k p1 k1 : Value} {w w1 : World} (h : Moves b p k p1 k1 w w1) (n : Nat) : Moves b p k p1 k1 w (w1.drewN n) := ⟨h.1, h.2.1, h.2.2.drewN n⟩
theorem Moves.setCell {b : Nat} {p k p1 k1 : Value} {w w1 : World} (h : Moves b p k p1 k1 w w1) (i : Nat) (u : Value) : Moves b p k p1 k1 w (w1.setCell ⟨b, i, none⟩ u) := ⟨h.1, h.2.1, h.2.2.setCell (by simp [foot]) u⟩
theorem Moves.alloc {b : Nat} {p k p1 k1 : Value} {w w1 : World} (h : Moves b p k p1 k1 w w1) (o : Obj) : Moves b p k p1 k1 w (w1.alloc o) := ⟨h.1, h.2.1, h.2.2.alloc o⟩
/-- a set without a chunk, a list without that chunk's element -/
def clrB (d i : Nat) : Nat := if d.testBit i = true then wo d (onl (i : Int)) else d
def clrL {α : Type} (d i : Nat) (l : List α) : List α := if d.testBit i = true then l.eraseIdx (cnt i d) else l
/-- what clearing or setting a chunk leaves -/
def SlotPost (base b : Nat) (o : Value) (bk : Bool) (d nn : Nat) (xs : List Pr) (ks : List Nat) (pv kv : Value) (w : World) (e : Ending) (w' : World) : Prop :=
  e = .returned (.tuple #[]) ∧ ∃ pv' kv', NdV base w' b o bk d nn pv' kv' xs ks ∧ Moves b pv kv pv' kv' w w'

set_option maxRecDepth 100000 in
set_option maxHeartbeats 4000000 in
theorem clearPair_yes (base b i : Nat) (o : Value) (bk : Bool) (d nn : Nat) (pv kv : Value) (xs : List Pr) (ks : List Nat) (w : World) (h : NdV base w b o bk d nn pv kv xs ks) (hd : d < 4294967296) (hi : i < 32) (hb : d.testBit i = true) (hr : cnt i d < xs.length) (hn : xs.length ≤ 900) :
    Calls Tryz.prog 46 #[.pointer (some ⟨b, 2, none⟩), .int .i64 i] w (SlotPost base b o bk (wo d (onl (i : Int))) nn (xs.eraseIdx (cnt i d)) ks pv kv w) := by
  obtain ⟨c0, c1, c2, c3, c4, c5⟩ := h.cells
  have f := h.blk.frozen
  obtain ⟨r, hrr⟩ : ∃ r, r = cnt i d := ⟨_, rfl⟩
  have F1 : IntKind.i64.wrap ((r : Int) + 1) = ((r + 1 : Nat) : Int) := by rw [IntWalk.i64_in _ (by omega)]; omega
  have HB := Lib.hid hb
  clear hb
  go_enter Tryz.func46, Tryz.ntmps46
  go_wp2_with fail
  refine (has_nat _ _ _ hd hi true HB.out).mono ?_
  rintro e w' ⟨rfl, rfl⟩
  go_wp2_with fail
  refine (rank_nat _ _ _ hd).mono ?_
  rintro e w' ⟨rfl, k, rfl⟩
  rw [← hrr] at hr ⊢
  have HR := Lib.hid hrr
  clear hrr
  have h1 := h.drewN k
  have hm := (Moves.refl b pv kv w).drewN k
  have hk0 := (Keep.refl [] w).drewN k
  clear c0 c1 c2 c3 c4 c5 f
  generalize w.drewN k = W at *
  obtain ⟨c0, c1, c2, c3, c4, c5⟩ := h1.cells
  have f := h1.blk.frozen
  go_wp2_with fail
  refine (del_pairs base r (r + 1) xs.length pv _ W h1.prs hr (Lib.hid rfl) (by omega) (flat_one xs)).mono ?_
  rintro e w1 ⟨g, cap, hv, rfl, hO, hK0⟩
  have hK : Keep pv.ownBlock.toList W w1 := by rw [hv]; exact hK0
  rw [flat_del] at hO
  have hO2 : Own base w1 (.slice (some ⟨g, 0, none⟩) (xs.length - 1) cap) (xs.eraseIdx r) := by
    unfold Own
    rw [List.length_eraseIdx_of_lt hr]
    exact hO
  have h2 := h1.setP (w' := w1) hK hO2
  have hm2 : Moves b pv kv (.slice (some ⟨g, 0, none⟩) (xs.length - 1) cap) kv w (w1.setCell ⟨b, 4, none⟩ (.slice (some ⟨g, 0, none⟩) (xs.length - 1) cap)) := by
    refine (hm.trans ⟨(fun x hx => .inl (by rw [hv]; exact hx)), .refl _ _, hK.sub (by intro x hx; simp only [foot, List.mem_cons, List.mem_append]; exact .inr (.inl hx))⟩).setCell _ _
  have hb1 : Blk w1 b 100 #[o, .bool bk, .int .u32 d, .int .u32 nn, pv, kv] := h1.blk.keep hK (fun hx => by have := h1.pne; simp at hx; exact this hx)
  have g2 := hb1.cell 2
  have g3 := hb1.cell 3
  have g4 := hb1.cell 4
  have q4 := hb1.frozen 4
  simp only [List.getElem?_toArray, List.getElem?_cons_succ, List.getElem?_cons_zero] at g2 g3 g4
  clear c0 c1 c2 c3 c4 c5 f hb1 hK hK0 hO hO2 h1 hm h hv
  go_wp2_with fail
  clear g2 g3 g4 q4
  generalize w1.setCell ⟨b, 4, none⟩ (.slice (some ⟨g, 0, none⟩) (xs.length - 1) cap) = W2 at *
  refine (without_any _ _ _ hd).mono ?_
  rintro e w' ⟨rfl, rfl⟩
  have g5 := h2.blk.cell 2
  have q5 := h2.blk.frozen 2
  simp only [List.getElem?_toArray, List.getElem?_cons_succ, List.getElem?_cons_zero] at g5
  have h3 := h2.setD (wo d (onl (i : Int)))
  have hm3 := hm2.setCell 2 (.int .u32 (wo d (onl (i : Int))))
  clear h2 hm2
  go_wp2_with fail
  go_end0
  rw [← HR.out]
  exact ⟨rfl, _, _, h3, hm3⟩
set_option maxRecDepth 100000 in
set_option maxHeartbeats 4000000 in
theorem clearPair_no (base b i : Nat) (o : Value) (bk : Bool) (d nn : Nat) (pv kv : Value) (xs : List Pr) (ks : List Nat) (w : World) (h : NdV base w b o bk d nn pv kv xs ks) (hd : d < 4294967296) (hi : i < 32) (hb : d.testBit i = false) :
    Calls Tryz.prog 46 #[.pointer (some ⟨b, 2, none⟩), .int .i64 i] w (SlotPost base b o bk d nn xs ks pv kv w) := by
  obtain ⟨c0, c1, c2, c3, c4, c5⟩ := h.cells
  have HB := Lib.hid hb
  clear hb
  go_enter Tryz.func46, Tryz.ntmps46
  go_wp2_with fail
  refine (has_nat _ _ _ hd hi false HB.out).mono ?_
  rintro e w' ⟨rfl, rfl⟩
  go_wp2_with fail
  go_end0
  exact ⟨rfl, _, _, h, Moves.refl _ _ _ _⟩
theorem clearPair_any (base b i : Nat) (o : Value) (bk : Bool) (d nn : Nat) (pv kv : Value) (xs : List Pr) (ks : List Nat) (w : World) (h : NdV base w b o bk d nn pv kv xs ks) (hd : d < 4294967296) (hi : i < 32) (hr : d.testBit i = true → cnt i d < xs.length) (hn : xs.length ≤ 900) :
    Calls Tryz.prog 46 #[.pointer (some ⟨b, 2, none⟩), .int .i64 i] w (SlotPost base b o bk (clrB d i) nn (clrL d i xs) ks pv kv w) := by
  unfold clrB clrL
  cases hb : d.testBit i with
  | true => rw [if_pos rfl, if_pos rfl]; exact clearPair_yes base b i o bk d nn pv kv xs ks w h hd hi hb (hr hb) hn
  | false => rw [if_neg (by decide), if_neg (by decide)]; exact clearPair_no base b i o bk d nn pv kv xs ks w h hd hi hb

set_option maxRecDepth 100000 in
set_option maxHeartbeats 4000000 in
theorem clearKid_yes (base b i : Nat) (o : Value) (bk : Bool) (d nn : Nat) (pv kv : Value) (xs : List Pr) (ks : List Nat) (w : World) (h : NdV base w b o bk d nn pv kv xs ks) (hd : nn < 4294967296) (hi : i < 32) (hb : nn.testBit i = true) (hr : cnt i nn < ks.length) (hn : ks.length ≤ 900) :
    Calls Tryz.prog 47 #[.pointer (some ⟨b, 2, none⟩), .int .i64 i] w (SlotPost base b o bk d (wo nn (onl (i : Int))) xs (ks.eraseIdx (cnt i nn)) pv kv w) := by
  obtain ⟨c0, c1, c2, c3, c4, c5⟩ := h.cells
  have f := h.blk.frozen
  obtain ⟨r, hrr⟩ : ∃ r, r = cnt i nn := ⟨_, rfl⟩
  have F1 : IntKind.i64.wrap ((r : Int) + 1) = ((r + 1 : Nat) : Int) := by rw [IntWalk.i64_in _ (by omega)]; omega
  have HB := Lib.hid hb
  clear hb
  go_enter Tryz.func47, Tryz.ntmps47
  go_wp2_with fail
  refine (has_nat _ _ _ hd hi true HB.out).mono ?_
  rintro e w' ⟨rfl, rfl⟩
  go_wp2_with fail
  refine (rank_nat _ _ _ hd).mono ?_
  rintro e w' ⟨rfl, k, rfl⟩
  rw [← hrr] at hr ⊢
  have HR := Lib.hid hrr
  clear hrr
  have h1 := h.drewN k
  have hm := (Moves.refl b pv kv w).drewN k
  have hk0 := (Keep.refl [] w).drewN k
  clear c0 c1 c2 c3 c4 c5 f
  generalize w.drewN k = W at *
  obtain ⟨c0, c1, c2, c3, c4, c5⟩ := h1.cells
  have f := h1.blk.frozen
  go_wp2_with fail
  refine (del_kids base r (r + 1) ks.length kv _ W h1.kds hr (Lib.hid rfl) (by omega) (kcs_one ks)).mono ?_
  rintro e w1 ⟨g, cap, hv, rfl, hO, hK0⟩
  have hK : Keep kv.ownBlock.toList W w1 := by rw [hv]; exact hK0
  rw [kcs_del] at hO
  have hO2 : OwnK base w1 (.slice (some ⟨g, 0, none⟩) (ks.length - 1) cap) (ks.eraseIdx r) := by
    unfold OwnK
    rw [List.length_eraseIdx_of_lt hr]
    exact hO
  have h2 := h1.setK (w' := w1) hK hO2
  have hm2 : Moves b pv kv pv (.slice (some ⟨g, 0, none⟩) (ks.length - 1) cap) w (w1.setCell ⟨b, 5, none⟩ (.slice (some ⟨g, 0, none⟩) (ks.length - 1) cap)) := by
    refine (hm.trans ⟨.refl _ _, (fun x hx => .inl (by rw [hv]; exact hx)), hK.sub (by intro x hx; simp only [foot, List.mem_cons, List.mem_append]; exact .inr (.inr hx))⟩).setCell _ _
  have hb1 : Blk w1 b 100 #[o, .bool bk, .int .u32 d, .int .u32 nn, pv, kv] := h1.blk.keep hK (fun hx => by have := h1.kne; simp at hx; exact this hx)
  have g2 := hb1.cell 2
  have g3 := hb1.cell 3
  have g4 := hb1.cell 5
  have q4 := hb1.frozen 5
  simp only [List.getElem?_toArray, List.getElem?_cons_succ, List.getElem?_cons_zero] at g2 g3 g4
  clear c0 c1 c2 c3 c4 c5 f hb1 hK hK0 hO hO2 h1 hm h hv
  go_wp2_with fail
  clear g2 g3 g4 q4
  generalize w1.setCell ⟨b, 5, none⟩ (.slice (some ⟨g, 0, none⟩) (ks.length - 1) cap) = W2 at *
  refine (without_any _ _ _ hd).mono ?_
  rintro e w' ⟨rfl, rfl⟩
  have g5 := h2.blk.cell 3
  have q5 := h2.blk.frozen 3
  simp only [List.getElem?_toArray, List.getElem?_cons_succ, List.getElem?_cons_zero] at g5
  have h3 := h2.setN (wo nn (onl (i : Int)))
  have hm3 := hm2.setCell 3 (.int .u32 (wo nn (onl (i : Int))))
  clear h2 hm2
  go_wp2_with fail
  go_end0
  rw [← HR.out]
  exact ⟨rfl, _, _, h3, hm3⟩
set_option maxRecDepth 100000 in
set_option maxHeartbeats 4000000 in
theorem clearKid_no (base b i : Nat) (o : Value) (bk : Bool) (d nn : Nat) (pv kv : Value) (xs : List Pr) (ks : List Nat) (w : World) (h : NdV base w b o bk d nn pv kv xs ks) (hd : nn < 4294967296) (hi : i < 32) (hb : nn.testBit i = false) :
    Calls Tryz.prog 47 #[.pointer (some ⟨b, 2, none⟩), .int .i64 i] w (SlotPost base b o bk d nn xs ks pv kv w) := by
  obtain ⟨c0, c1, c2, c3, c4, c5⟩ := h.cells
  have HB := Lib.hid hb
  clear hb
  go_enter Tryz.func47, Tryz.ntmps47
  go_wp2_with fail
  refine (has_nat _ _ _ hd hi false HB.out).mono ?_
  rintro e w' ⟨rfl, rfl⟩
  go_wp2_with fail
  go_end0
  exact ⟨rfl, _, _, h, Moves.refl _ _ _ _⟩
theorem clearKid_any (base b i : Nat) (o : Value) (bk : Bool) (d nn : Nat) (pv kv : Value) (xs : List Pr) (ks : List Nat) (w : World) (h : NdV base w b o bk d nn pv kv xs ks) (hd : nn < 4294967296) (hi : i < 32) (hr : nn.testBit i = true → cnt i nn < ks.length) (hn : ks.length ≤ 900) :
    Calls Tryz.prog 47 #[.pointer (some ⟨b, 2, none⟩), .int .i64 i] w (SlotPost base b o bk d (clrB nn i) xs (clrL nn i ks) pv kv w) := by
  unfold clrB clrL
  cases hb : nn.testBit i with
  | true => rw [if_pos rfl, if_pos rfl]; exact clearKid_yes base b i o bk d nn pv kv xs ks w h hd hi hb (hr hb) hn
  | false => rw [if_neg (by decide), if_neg (by decide)]; exact clearKid_no base b i o bk d nn pv kv xs ks w h hd hi hb
end Go.Proofs.YtchimfgbdfmegaaGreat
/- The slots of a node in memory: setting a chunk. -/
namespace Go.Proofs.YtchimfgbdfmegaaGreat
open Go.RowKit Go.Lib
set_option linter.unusedVariables false
set_option maxRecDepth 100000
set_option maxRecDepth 100000
set_option linter.unusedSimpArgs false
attribute [local irreducible] cnt
/-- a list with a chunk's element -/
def setL {α : Type} (d i : Nat) (x : α) (l : List α) : List α := putAt l (cnt i d) (d.testBit i) x
theorem late_no {b : Bool} {p : Prop} (h : b = true) : b = false → p := fun e => by rw [h] at e; cases e

set_option maxRecDepth 100000 in
set_option maxHeartbeats 8000000 in
theorem setPair_any (base b i : Nat) (p : Pr) (o : Value) (bk : Bool) (d nn : Nat) (pv kv : Value) (xs : List Pr) (ks : List Nat) (w : World) (h : NdV base w b o bk d nn pv kv xs ks) (hd : d < 4294967296) (hnn : nn < 4294967296) (hi : i < 32)
    (hr1 : d.testBit i = true → cnt i d < xs.length) (hr2 : nn.testBit i = true → cnt i nn < ks.length) (hle : cnt i d ≤ xs.length) (hn1 : xs.length ≤ 800) (hn2 : ks.length ≤ 800) (hbase : base ≤ w.heap.size) :
    Calls Tryz.prog 45 #[.pointer (some ⟨b, 2, none⟩), .int .i64 i, p.v] w (SlotPost base b o bk (d ||| onl (i : Int)) (clrB nn i) (setL d i p xs) (clrL nn i ks) pv kv w) := by
  have HR1 := Lib.hid hr1
  have HR2 := Lib.hid hr2
  clear hr1 hr2
  have hbx := Blk.new w 52 #[.string p.1, .string p.2]
  have hA := h.below ((Below.refl _ w).alloc (Nat.le_refl _) (.cells #[.string p.1, .string p.2] 52))
  have hmA := (Moves.refl b pv kv w).alloc (.cells #[.string p.1, .string p.2] 52)
  have hpl := h.blk.lt
  have hplp := fun k hk => (World.ownsRow.lt h.prs k hk).2
  have hplk := fun k hk => (World.ownsRow.lt h.kds k hk).2
  have hsA : w.heap.size < (w.alloc (.cells #[.string p.1, .string p.2] 52)).heap.size := by simp
  unfold Pr.v
  go_enter Tryz.func45, Tryz.ntmps45
  go_upto_region 1 with (fail)
  generalize w.alloc (.cells #[.string p.1, .string p.2] 52) = WA at *
  obtain ⟨x, hx⟩ : ∃ x, x = w.heap.size := ⟨_, rfl⟩
  rw [← hx] at hbx hsA ⊢
  have hxf : x ∉ foot b pv kv := fun hm => by
    simp only [foot, List.mem_cons, List.mem_append, Option.mem_toList] at hm
    rcases hm with e | e | e
    · omega
    · have := hplp _ e; omega
    · have := hplk _ e; omega
  have hsz : w.heap.size ≤ WA.heap.size := by omega
  clear hx hplp hplk hpl
  go_wp2_with fail
  refine (clearKid_any base b i o bk d nn pv kv xs ks WA hA hnn hi HR2.out (by omega)).mono ?_
  rintro e w1 ⟨rfl, pv1, kv1, h1, hm1⟩
  have hbx1 := hbx.keep hm1.2.2 hxf
  have hxf1 : pv1.ownBlock ≠ some x := fun e => by
    rcases hm1.1 x e with e' | e'
    · exact hxf (by simp [foot, e'])
    · omega
  have hmB := hmA.trans hm1
  have hsb : base ≤ w1.heap.size := Nat.le_trans hbase hmB.2.2.all.size
  generalize (clrB nn i) = nn1 at *
  generalize (clrL nn i ks) = ks1 at *
  clear hA hmA hm1 hbx hxf h
  have hS : (fun w' : World => w'.cell? ⟨b, 4, none⟩ = some pv1 ∧ w'.cell? ⟨b, 2, none⟩ = some (.int .u32 d) ∧ w'.cell? ⟨x, 0, none⟩ = some (.string p.1) ∧ w'.cell? ⟨x, 1, none⟩ = some (.string p.2)) w1.drew := ⟨h1.blk.cell 4, h1.blk.cell 2, hbx1.cell 0, hbx1.cell 1⟩
  have h1d : NdV base w1.drew b o bk d nn1 pv1 kv1 xs ks1 := h1.drewN 1
  have hmd : Moves b pv kv pv1 kv1 w w1.drew := hmB.drewN 1
  have hbxd : Blk w1.drew x 52 #[.string p.1, .string p.2] := hbx1
  have hsbd : base ≤ w1.drew.heap.size := hsb
  obtain ⟨r, hrr0⟩ : ∃ r, r = cnt i d := ⟨_, rfl⟩
  obtain ⟨tb, htb0⟩ : ∃ tb, tb = d.testBit i := ⟨_, rfl⟩
  have hrr := Lib.hid hrr0
  have htb := Lib.hid htb0
  clear hrr0 htb0
  clear h1 hmB hsb hbx1
  go_wp2_with fail
  refine wp_region_late (S := fun w' => w'.cell? ⟨b, 4, none⟩ = some pv1 ∧ w'.cell? ⟨b, 2, none⟩ = some (.int .u32 d) ∧ w'.cell? ⟨x, 0, none⟩ = some (.string p.1) ∧ w'.cell? ⟨x, 1, none⟩ = some (.string p.2)) (st := 21) (by kernel_rfl) ?_
  generalize w1.drew = W at *
  refine wpAnyL_take0 (i := 0) (oi := { dst := some 9, op := Go.Op.move (Go.Operand.tmp 0), type := 131, pos := "slots.go:27", after := #[], guard := none }) (v := .pointer (some ⟨b, 2, none⟩)) rfl (by kernel_rfl) (by kernel_rfl) (by kernel_rfl) (by kernel_rfl) (fun _ _ _ h => h) hS (Or.inl ⟨by rfl, fun w hSw => ?_⟩) ?_
  · go_split_ands
    go_simp
  try simp only [Act.put, List.setIfInBounds_toArray, List.set_cons_zero, List.set_cons_succ]
  refine wpAnyL_take0 (i := 1) (oi := { dst := some 10, op := Go.Op.move (Go.Operand.tmp 0), type := 131, pos := "slots.go:27", after := #[], guard := none }) (v := .pointer (some ⟨b, 2, none⟩)) rfl (by kernel_rfl) (by kernel_rfl) (by kernel_rfl) (by kernel_rfl) (fun _ _ _ h => h) hS (Or.inl ⟨by rfl, fun w hSw => ?_⟩) ?_
  · go_split_ands
    go_simp
  try simp only [Act.put, List.setIfInBounds_toArray, List.set_cons_zero, List.set_cons_succ]
  refine wpAnyL_take0 (i := 2) (oi := { dst := some 11, op := Go.Op.nilCheck (Go.Operand.tmp 10), type := 0, pos := "slots.go:27", after := #[{ on := 1, ground := Go.Ground.data }], guard := none }) (v := .pointer (some ⟨b, 2, none⟩)) rfl (by kernel_rfl) (by kernel_rfl) (by kernel_rfl) (by kernel_rfl) (fun _ _ _ h => h) hS (Or.inl ⟨by rfl, fun w hSw => ?_⟩) ?_
  · go_split_ands
    go_simp
  try simp only [Act.put, List.setIfInBounds_toArray, List.set_cons_zero, List.set_cons_succ]
  refine wpAnyL_take0 (i := 3) (oi := { dst := some 12, op := Go.Op.fieldAddr 98 (Go.Operand.tmp 11) 2, type := 0, pos := "slots.go:27", after := #[{ on := 2, ground := Go.Ground.data }], guard := none }) (v := .pointer (some ⟨b, 4, none⟩)) rfl (by kernel_rfl) (by kernel_rfl) (by kernel_rfl) (by kernel_rfl) (fun _ _ _ h => h) hS (Or.inl ⟨by rfl, fun w hSw => ?_⟩) ?_
  · go_split_ands
    go_simp
  try simp only [Act.put, List.setIfInBounds_toArray, List.set_cons_zero, List.set_cons_succ]
  refine wpAnyL_take (i := 4) (oi := { dst := some 13, op := Go.Op.load 27 (Go.Operand.tmp 12), type := 27, pos := "slots.go:27", after := #[{ on := 3, ground := Go.Ground.data }], guard := none }) (v := pv1) rfl (by kernel_rfl) (by kernel_rfl) (by kernel_rfl) (by kernel_rfl) (fun _ _ _ h => h) hS (Or.inl ⟨by rfl, fun w hSw => ?_⟩) ?_
  · go_split_ands
    go_simp
  try simp only [Act.put, List.setIfInBounds_toArray, List.set_cons_zero, List.set_cons_succ]
  refine wpAnyL_take0 (i := 5) (oi := { dst := some 14, op := Go.Op.move (Go.Operand.tmp 0), type := 131, pos := "slots.go:27", after := #[], guard := none }) (v := .pointer (some ⟨b, 2, none⟩)) rfl (by kernel_rfl) (by kernel_rfl) (by kernel_rfl) (by kernel_rfl) (fun _ _ _ h => h) hS (Or.inl ⟨by rfl, fun w hSw => ?_⟩) ?_
  · go_split_ands
    go_simp
  try simp only [Act.put, List.setIfInBounds_toArray, List.set_cons_zero, List.set_cons_succ]
  refine wpAnyL_take0 (i := 6) (oi := { dst := some 15, op := Go.Op.nilCheck (Go.Operand.tmp 14), type := 0, pos := "slots.go:27", after := #[{ on := 5, ground := Go.Ground.data }], guard := none }) (v := .pointer (some ⟨b, 2, none⟩)) rfl (by kernel_rfl) (by kernel_rfl) (by kernel_rfl) (by kernel_rfl) (fun _ _ _ h => h) hS (Or.inl ⟨by rfl, fun w hSw => ?_⟩) ?_
  · go_split_ands
    go_simp
  try simp only [Act.put, List.setIfInBounds_toArray, List.set_cons_zero, List.set_cons_succ]
  refine wpAnyL_take0 (i := 7) (oi := { dst := some 16, op := Go.Op.fieldAddr 98 (Go.Operand.tmp 15) 0, type := 0, pos := "slots.go:27", after := #[{ on := 6, ground := Go.Ground.data }], guard := none }) (v := .pointer (some ⟨b, 2, none⟩)) rfl (by kernel_rfl) (by kernel_rfl) (by kernel_rfl) (by kernel_rfl) (fun _ _ _ h => h) hS (Or.inl ⟨by rfl, fun w hSw => ?_⟩) ?_
  · go_split_ands
    go_simp
  try simp only [Act.put, List.setIfInBounds_toArray, List.set_cons_zero, List.set_cons_succ]
  refine wpAnyL_take (i := 8) (oi := { dst := some 17, op := Go.Op.load 95 (Go.Operand.tmp 16), type := 95, pos := "slots.go:27", after := #[{ on := 7, ground := Go.Ground.data }], guard := none }) (v := .int .u32 d) rfl (by kernel_rfl) (by kernel_rfl) (by kernel_rfl) (by kernel_rfl) (fun _ _ _ h => h) hS (Or.inl ⟨by rfl, fun w hSw => ?_⟩) ?_
  · go_split_ands
    go_simp
  try simp only [Act.put, List.setIfInBounds_toArray, List.set_cons_zero, List.set_cons_succ]
  refine wpAnyL_take0 (i := 9) (oi := { dst := some 18, op := Go.Op.move (Go.Operand.tmp 1), type := 3, pos := "slots.go:27", after := #[], guard := none }) (v := .int .i64 i) rfl (by kernel_rfl) (by kernel_rfl) (by kernel_rfl) (by kernel_rfl) (fun _ _ _ h => h) hS (Or.inl ⟨by rfl, fun w hSw => ?_⟩) ?_
  · go_split_ands
    go_simp
  try simp only [Act.put, List.setIfInBounds_toArray, List.set_cons_zero, List.set_cons_succ]
  refine wpAnyL_take0 (i := 11) (oi := { dst := some 20, op := Go.Op.move (Go.Operand.tmp 0), type := 131, pos := "slots.go:27", after := #[], guard := none }) (v := .pointer (some ⟨b, 2, none⟩)) rfl (by kernel_rfl) (by kernel_rfl) (by kernel_rfl) (by kernel_rfl) (fun _ _ _ h => h) hS (Or.inl ⟨by rfl, fun w hSw => ?_⟩) ?_
  · go_split_ands
    go_simp
  try simp only [Act.put, List.setIfInBounds_toArray, List.set_cons_zero, List.set_cons_succ]
  refine wpAnyL_take0 (i := 12) (oi := { dst := some 21, op := Go.Op.nilCheck (Go.Operand.tmp 20), type := 0, pos := "slots.go:27", after := #[{ on := 11, ground := Go.Ground.data }], guard := none }) (v := .pointer (some ⟨b, 2, none⟩)) rfl (by kernel_rfl) (by kernel_rfl) (by kernel_rfl) (by kernel_rfl) (fun _ _ _ h => h) hS (Or.inl ⟨by rfl, fun w hSw => ?_⟩) ?_
  · go_split_ands
    go_simp
  try simp only [Act.put, List.setIfInBounds_toArray, List.set_cons_zero, List.set_cons_succ]
  refine wpAnyL_take0 (i := 13) (oi := { dst := some 22, op := Go.Op.fieldAddr 98 (Go.Operand.tmp 21) 0, type := 0, pos := "slots.go:27", after := #[{ on := 12, ground := Go.Ground.data }], guard := none }) (v := .pointer (some ⟨b, 2, none⟩)) rfl (by kernel_rfl) (by kernel_rfl) (by kernel_rfl) (by kernel_rfl) (fun _ _ _ h => h) hS (Or.inl ⟨by rfl, fun w hSw => ?_⟩) ?_
  · go_split_ands
    go_simp
  try simp only [Act.put, List.setIfInBounds_toArray, List.set_cons_zero, List.set_cons_succ]
  refine wpAnyL_take (i := 14) (oi := { dst := some 23, op := Go.Op.load 95 (Go.Operand.tmp 22), type := 95, pos := "slots.go:27", after := #[{ on := 13, ground := Go.Ground.data }], guard := none }) (v := .int .u32 d) rfl (by kernel_rfl) (by kernel_rfl) (by kernel_rfl) (by kernel_rfl) (fun _ _ _ h => h) hS (Or.inl ⟨by rfl, fun w hSw => ?_⟩) ?_
  · go_split_ands
    go_simp
  try simp only [Act.put, List.setIfInBounds_toArray, List.set_cons_zero, List.set_cons_succ]
  refine wpAnyL_take0 (i := 15) (oi := { dst := some 24, op := Go.Op.move (Go.Operand.tmp 1), type := 3, pos := "slots.go:27", after := #[], guard := none }) (v := .int .i64 i) rfl (by kernel_rfl) (by kernel_rfl) (by kernel_rfl) (by kernel_rfl) (fun _ _ _ h => h) hS (Or.inl ⟨by rfl, fun w hSw => ?_⟩) ?_
  · go_split_ands
    go_simp
  try simp only [Act.put, List.setIfInBounds_toArray, List.set_cons_zero, List.set_cons_succ]
  refine wpAnyL_take (i := 17) (oi := { dst := some 26, op := Go.Op.load 52 (Go.Operand.tmp 5), type := 52, pos := "slots.go:27", after := #[], guard := none }) (v := .agg #[.string p.1, .string p.2]) rfl (by kernel_rfl) (by kernel_rfl) (by kernel_rfl) (by kernel_rfl) (fun _ _ _ h => h) hS (Or.inl ⟨by rfl, fun w hSw => ?_⟩) ?_
  · go_split_ands
    go_simp
  try simp only [Act.put, List.setIfInBounds_toArray, List.set_cons_zero, List.set_cons_succ]
  refine wpAnyL_ready (rs := [10]) (by kernel_rfl) (by simp) ?_
  refine AllReadyL.cons (o := { dst := some 19, op := Go.Op.call { callee := Go.Callee.value (Go.Operand.func 71), args := #[Go.Operand.tmp 17, Go.Operand.tmp 18], argTypes := #[95, 3] }, type := 3, pos := "slots.go:27", after := #[{ on := 8, ground := Go.Ground.data }, { on := 9, ground := Go.Ground.data }], guard := none }) rfl (fun K hK => ?_) AllReadyL.nil
  go_simp
  refine (rank_nat _ _ _ hd).mono ?_
  rintro e w' ⟨rfl, k1, rfl⟩
  go_wp2_with fail
  have hS2 : (fun w' : World => w'.cell? ⟨b, 4, none⟩ = some pv1 ∧ w'.cell? ⟨b, 2, none⟩ = some (.int .u32 d) ∧ w'.cell? ⟨x, 0, none⟩ = some (.string p.1) ∧ w'.cell? ⟨x, 1, none⟩ = some (.string p.2)) (W.drewN k1) := hS
  refine hK.out _ _ (fun _ => hS2) ?_
  clear hK K hS
  try simp only [Act.put, List.setIfInBounds_toArray, List.set_cons_zero, List.set_cons_succ]
  have h2 := h1d.drewN k1
  have hm2 := hmd.drewN k1
  have hsb2 : base ≤ (W.drewN k1).heap.size := hsbd
  have hbx2 : Blk (W.drewN k1) x 52 #[.string p.1, .string p.2] := hbxd
  clear h1d hmd hsbd hbxd
  generalize W.drewN k1 = W2 at *
  have hS := hS2
  clear hS2
  refine wpAnyL_ready (rs := [16]) (by kernel_rfl) (by simp) ?_
  refine AllReadyL.cons (o := { dst := some 25, op := Go.Op.call { callee := Go.Callee.value (Go.Operand.func 72), args := #[Go.Operand.tmp 23, Go.Operand.tmp 24], argTypes := #[95, 3] }, type := 4, pos := "slots.go:27", after := #[{ on := 14, ground := Go.Ground.data }, { on := 15, ground := Go.Ground.data }, { on := 10, ground := Go.Ground.chain }], guard := none }) rfl (fun K hK => ?_) AllReadyL.nil
  go_simp
  refine (has_nat _ _ _ hd hi tb htb.out.symm).mono ?_
  rintro e w' ⟨rfl, rfl⟩
  go_wp2_with fail
  refine hK.out _ _ (fun _ => hS) ?_
  clear hK K
  try simp only [Act.put, List.setIfInBounds_toArray, List.set_cons_zero, List.set_cons_succ]
  refine wpAnyL_ready (rs := [18]) (by kernel_rfl) (by simp) ?_
  refine AllReadyL.cons (o := { dst := some 27, op := Go.Op.call { callee := Go.Callee.value (Go.Operand.func 68), args := #[Go.Operand.tmp 13, Go.Operand.tmp 19, Go.Operand.tmp 25, Go.Operand.tmp 26], argTypes := #[27, 3, 4, 52] }, type := 27, pos := "slots.go:27", after := #[{ on := 4, ground := Go.Ground.data }, { on := 10, ground := Go.Ground.data }, { on := 16, ground := Go.Ground.data }, { on := 17, ground := Go.Ground.data }, { on := 16, ground := Go.Ground.chain }], guard := none }) rfl (fun K hK => ?_) AllReadyL.nil
  go_simp
  rw [← hrr.out]
  refine (place_pairs base r tb pv1 xs p W2 h2.prs (by rw [hrr.out]; exact hle) (fun e => by rw [hrr.out]; exact HR1.out (htb.out.symm.trans e)) (by omega) hsb2).mono ?_
  rintro e w3 ⟨v', rfl, hO, hso, hK3⟩
  go_wp2_with fail
  have hb3 : Blk w3 b 100 #[o, .bool bk, .int .u32 d, .int .u32 nn1, pv1, kv1] := h2.blk.keep hK3 (fun hx => by have := h2.pne; simp at hx; exact this hx)
  have hbx3 : Blk w3 x 52 #[.string p.1, .string p.2] := hbx2.keep hK3 (by simpa using hxf1)
  have hS3 : (fun w' : World => w'.cell? ⟨b, 4, none⟩ = some pv1 ∧ w'.cell? ⟨b, 2, none⟩ = some (.int .u32 d) ∧ w'.cell? ⟨x, 0, none⟩ = some (.string p.1) ∧ w'.cell? ⟨x, 1, none⟩ = some (.string p.2)) w3 := ⟨hb3.cell 4, hb3.cell 2, hbx3.cell 0, hbx3.cell 1⟩
  refine hK.out _ _ (fun _ => hS3) ?_
  clear hK K hS
  try simp only [Act.put, List.setIfInBounds_toArray, List.set_cons_zero, List.set_cons_succ]
  have hS := hS3
  have h4 := h2.setP (w' := w3) hK3 hO
  have hm4 : Moves b pv kv v' kv1 w (w3.setCell ⟨b, 4, none⟩ v') := by
    refine (hm2.trans ⟨hso, .refl _ _, hK3.sub (by intro y hy; simp only [foot, List.mem_cons, List.mem_append]; exact .inr (.inl hy))⟩).setCell _ _
  have g4 := hb3.cell 4
  have q4 := hb3.frozen 4
  simp only [List.getElem?_toArray, List.getElem?_cons_succ, List.getElem?_cons_zero] at g4
  obtain ⟨Av, nv, cv, rfl⟩ : ∃ Av nv cv, v' = .slice Av nv cv := by
    rcases hO.2 with ⟨e, _⟩ | ⟨g, cap, cur, e, _⟩
    · exact ⟨_, _, _, e⟩
    · exact ⟨_, _, _, e⟩
  clear hO hso hK3 h2 hm2 hsb2 hb3 hbx2 hbx3
  refine wpAnyL_take0 (i := 19) (oi := { dst := some 28, op := Go.Op.nilCheck (Go.Operand.tmp 9), type := 0, pos := "slots.go:27", after := #[{ on := 0, ground := Go.Ground.data }, { on := 0, ground := Go.Ground.phase }, { on := 1, ground := Go.Ground.phase }, { on := 2, ground := Go.Ground.phase }, { on := 3, ground := Go.Ground.phase }, { on := 4, ground := Go.Ground.phase }, { on := 5, ground := Go.Ground.phase }, { on := 6, ground := Go.Ground.phase }, { on := 7, ground := Go.Ground.phase }, { on := 8, ground := Go.Ground.phase }, { on := 9, ground := Go.Ground.phase }, { on := 10, ground := Go.Ground.phase }, { on := 11, ground := Go.Ground.phase }, { on := 12, ground := Go.Ground.phase }, { on := 13, ground := Go.Ground.phase }, { on := 14, ground := Go.Ground.phase }, { on := 15, ground := Go.Ground.phase }, { on := 16, ground := Go.Ground.phase }, { on := 17, ground := Go.Ground.phase }, { on := 18, ground := Go.Ground.phase }], guard := none }) (v := .pointer (some ⟨b, 2, none⟩)) rfl (by kernel_rfl) (by kernel_rfl) (by kernel_rfl) (by kernel_rfl) (fun _ _ _ h => h) hS (Or.inl ⟨by rfl, fun w hSw => ?_⟩) ?_
  · go_split_ands
    go_simp
  try simp only [Act.put, List.setIfInBounds_toArray, List.set_cons_zero, List.set_cons_succ]
  refine wpAnyL_take0 (i := 20) (oi := { dst := some 29, op := Go.Op.fieldAddr 98 (Go.Operand.tmp 28) 2, type := 0, pos := "slots.go:27", after := #[{ on := 19, ground := Go.Ground.data }, { on := 0, ground := Go.Ground.phase }, { on := 1, ground := Go.Ground.phase }, { on := 2, ground := Go.Ground.phase }, { on := 3, ground := Go.Ground.phase }, { on := 4, ground := Go.Ground.phase }, { on := 5, ground := Go.Ground.phase }, { on := 6, ground := Go.Ground.phase }, { on := 7, ground := Go.Ground.phase }, { on := 8, ground := Go.Ground.phase }, { on := 9, ground := Go.Ground.phase }, { on := 10, ground := Go.Ground.phase }, { on := 11, ground := Go.Ground.phase }, { on := 12, ground := Go.Ground.phase }, { on := 13, ground := Go.Ground.phase }, { on := 14, ground := Go.Ground.phase }, { on := 15, ground := Go.Ground.phase }, { on := 16, ground := Go.Ground.phase }, { on := 17, ground := Go.Ground.phase }, { on := 18, ground := Go.Ground.phase }], guard := none }) (v := .pointer (some ⟨b, 4, none⟩)) rfl (by kernel_rfl) (by kernel_rfl) (by kernel_rfl) (by kernel_rfl) (fun _ _ _ h => h) hS (Or.inl ⟨by rfl, fun w hSw => ?_⟩) ?_
  · go_split_ands
    go_simp
  try simp only [Act.put, List.setIfInBounds_toArray, List.set_cons_zero, List.set_cons_succ]
  refine wpAnyL_ready (rs := [21]) (by kernel_rfl) (by simp) ?_
  refine AllReadyL.cons (o := { dst := none, op := Go.Op.store 27 (Go.Operand.tmp 29) (Go.Operand.tmp 27), type := 0, pos := "slots.go:27", after := #[{ on := 20, ground := Go.Ground.data }, { on := 18, ground := Go.Ground.data }, { on := 18, ground := Go.Ground.chain }, { on := 0, ground := Go.Ground.phase }, { on := 1, ground := Go.Ground.phase }, { on := 2, ground := Go.Ground.phase }, { on := 3, ground := Go.Ground.phase }, { on := 4, ground := Go.Ground.phase }, { on := 5, ground := Go.Ground.phase }, { on := 6, ground := Go.Ground.phase }, { on := 7, ground := Go.Ground.phase }, { on := 8, ground := Go.Ground.phase }, { on := 9, ground := Go.Ground.phase }, { on := 10, ground := Go.Ground.phase }, { on := 11, ground := Go.Ground.phase }, { on := 12, ground := Go.Ground.phase }, { on := 13, ground := Go.Ground.phase }, { on := 14, ground := Go.Ground.phase }, { on := 15, ground := Go.Ground.phase }, { on := 16, ground := Go.Ground.phase }, { on := 17, ground := Go.Ground.phase }, { on := 18, ground := Go.Ground.phase }], guard := none }) rfl (fun K hK => ?_) AllReadyL.nil
  go_simp
  refine hK.out _ _ (late_no (by kernel_rfl)) ?_
  clear hK K hS hS3
  try simp only [Act.put, List.setIfInBounds_toArray, List.set_cons_zero, List.set_cons_succ]
  refine wpAnyL_done (by kernel_rfl) ?_ _
  generalize w3.setCell ⟨b, 4, none⟩ (.slice Av nv cv) = W4 at *
  clear g4 q4
  have g5 := h4.blk.cell 2
  simp only [List.getElem?_toArray, List.getElem?_cons_succ, List.getElem?_cons_zero] at g5
  go_wp2_with fail
  refine (with_any _ _ _ hd).mono ?_
  rintro e w' ⟨rfl, rfl⟩
  have q5 := h4.blk.frozen 2
  have h5 := h4.setD (d ||| onl (i : Int))
  have hm5 := hm4.setCell 2 (.int .u32 (d ||| onl (i : Int) : Nat))
  clear h4 hm4
  go_wp2_with fail
  go_end0
  rw [hrr.out, htb.out] at h5
  exact ⟨rfl, _, _, h5, hm5⟩

set_option maxRecDepth 100000 in
set_option maxHeartbeats 8000000 in
theorem setKid_any (base b i : Nat) (k : Nat) (o : Value) (bk : Bool) (d nn : Nat) (pv kv : Value) (xs : List Pr) (ks : List Nat) (w : World) (h : NdV base w b o bk d nn pv kv xs ks) (hd : d < 4294967296) (hnn : nn < 4294967296) (hi : i < 32)
    (hr1 : d.testBit i = true → cnt i d < xs.length) (hr2 : nn.testBit i = true → cnt i nn < ks.length) (hle : cnt i nn ≤ ks.length) (hn1 : xs.length ≤ 800) (hn2 : ks.length ≤ 800) (hbase : base ≤ w.heap.size) :
    Calls Tryz.prog 48 #[.pointer (some ⟨b, 2, none⟩), .int .i64 i, at0 k] w (SlotPost base b o bk (clrB d i) (nn ||| onl (i : Int)) (clrL d i xs) (setL nn i k ks) pv kv w) := by
  have HR1 := Lib.hid hr1
  have HR2 := Lib.hid hr2
  clear hr1 hr2
  have hA := h
  have hmA := Moves.refl b pv kv w
  unfold at0
  go_enter Tryz.func48, Tryz.ntmps48
  go_wp2_with fail
  refine (clearPair_any base b i o bk d nn pv kv xs ks w hA hd hi HR1.out (by omega)).mono ?_
  rintro e w1 ⟨rfl, pv1, kv1, h1, hm1⟩
  have hmB := hmA.trans hm1
  have hsb : base ≤ w1.heap.size := Nat.le_trans hbase hmB.2.2.all.size
  generalize (clrB d i) = d1 at *
  generalize (clrL d i xs) = xs1 at *
  clear hA hmA hm1 h
  have hS : (fun w' : World => w'.cell? ⟨b, 5, none⟩ = some kv1 ∧ w'.cell? ⟨b, 3, none⟩ = some (.int .u32 nn)) w1.drew := ⟨h1.blk.cell 5, h1.blk.cell 3⟩
  have h1d : NdV base w1.drew b o bk d1 nn pv1 kv1 xs1 ks := h1.drewN 1
  have hmd : Moves b pv kv pv1 kv1 w w1.drew := hmB.drewN 1
  have hsbd : base ≤ w1.drew.heap.size := hsb
  obtain ⟨r, hrr0⟩ : ∃ r, r = cnt i nn := ⟨_, rfl⟩
  obtain ⟨tb, htb0⟩ : ∃ tb, tb = nn.testBit i := ⟨_, rfl⟩
  have hrr := Lib.hid hrr0
  have htb := Lib.hid htb0
  clear hrr0 htb0
  clear h1 hmB hsb 
  go_wp2_with fail
  refine wp_region_late (S := fun w' => w'.cell? ⟨b, 5, none⟩ = some kv1 ∧ w'.cell? ⟨b, 3, none⟩ = some (.int .u32 nn)) (st := 21) (by kernel_rfl) ?_
  generalize w1.drew = W at *
  refine wpAnyL_take0 (i := 0) (oi := { dst := some 9, op := Go.Op.move (Go.Operand.tmp 0), type := 131, pos := "slots.go:33", after := #[], guard := none }) (v := .pointer (some ⟨b, 2, none⟩)) rfl (by kernel_rfl) (by kernel_rfl) (by kernel_rfl) (by kernel_rfl) (fun _ _ _ h => h) hS (Or.inl ⟨by rfl, fun w hSw => ?_⟩) ?_
  · go_split_ands
    go_simp
  try simp only [Act.put, List.setIfInBounds_toArray, List.set_cons_zero, List.set_cons_succ]
  refine wpAnyL_take0 (i := 1) (oi := { dst := some 10, op := Go.Op.move (Go.Operand.tmp 0), type := 131, pos := "slots.go:33", after := #[], guard := none }) (v := .pointer (some ⟨b, 2, none⟩)) rfl (by kernel_rfl) (by kernel_rfl) (by kernel_rfl) (by kernel_rfl) (fun _ _ _ h => h) hS (Or.inl ⟨by rfl, fun w hSw => ?_⟩) ?_
  · go_split_ands
    go_simp
  try simp only [Act.put, List.setIfInBounds_toArray, List.set_cons_zero, List.set_cons_succ]
  refine wpAnyL_take0 (i := 2) (oi := { dst := some 11, op := Go.Op.nilCheck (Go.Operand.tmp 10), type := 0, pos := "slots.go:33", after := #[{ on := 1, ground := Go.Ground.data }], guard := none }) (v := .pointer (some ⟨b, 2, none⟩)) rfl (by kernel_rfl) (by kernel_rfl) (by kernel_rfl) (by kernel_rfl) (fun _ _ _ h => h) hS (Or.inl ⟨by rfl, fun w hSw => ?_⟩) ?_
  · go_split_ands
    go_simp
  try simp only [Act.put, List.setIfInBounds_toArray, List.set_cons_zero, List.set_cons_succ]
  refine wpAnyL_take0 (i := 3) (oi := { dst := some 12, op := Go.Op.fieldAddr 98 (Go.Operand.tmp 11) 3, type := 0, pos := "slots.go:33", after := #[{ on := 2, ground := Go.Ground.data }], guard := none }) (v := .pointer (some ⟨b, 5, none⟩)) rfl (by kernel_rfl) (by kernel_rfl) (by kernel_rfl) (by kernel_rfl) (fun _ _ _ h => h) hS (Or.inl ⟨by rfl, fun w hSw => ?_⟩) ?_
  · go_split_ands
    go_simp
  try simp only [Act.put, List.setIfInBounds_toArray, List.set_cons_zero, List.set_cons_succ]
  refine wpAnyL_take (i := 4) (oi := { dst := some 13, op := Go.Op.load 96 (Go.Operand.tmp 12), type := 96, pos := "slots.go:33", after := #[{ on := 3, ground := Go.Ground.data }], guard := none }) (v := kv1) rfl (by kernel_rfl) (by kernel_rfl) (by kernel_rfl) (by kernel_rfl) (fun _ _ _ h => h) hS (Or.inl ⟨by rfl, fun w hSw => ?_⟩) ?_
  · go_split_ands
    go_simp
  try simp only [Act.put, List.setIfInBounds_toArray, List.set_cons_zero, List.set_cons_succ]
  refine wpAnyL_take0 (i := 5) (oi := { dst := some 14, op := Go.Op.move (Go.Operand.tmp 0), type := 131, pos := "slots.go:33", after := #[], guard := none }) (v := .pointer (some ⟨b, 2, none⟩)) rfl (by kernel_rfl) (by kernel_rfl) (by kernel_rfl) (by kernel_rfl) (fun _ _ _ h => h) hS (Or.inl ⟨by rfl, fun w hSw => ?_⟩) ?_
  · go_split_ands
    go_simp
  try simp only [Act.put, List.setIfInBounds_toArray, List.set_cons_zero, List.set_cons_succ]
  refine wpAnyL_take0 (i := 6) (oi := { dst := some 15, op := Go.Op.nilCheck (Go.Operand.tmp 14), type := 0, pos := "slots.go:33", after := #[{ on := 5, ground := Go.Ground.data }], guard := none }) (v := .pointer (some ⟨b, 2, none⟩)) rfl (by kernel_rfl) (by kernel_rfl) (by kernel_rfl) (by kernel_rfl) (fun _ _ _ h => h) hS (Or.inl ⟨by rfl, fun w hSw => ?_⟩) ?_
  · go_split_ands
    go_simp
  try simp only [Act.put, List.setIfInBounds_toArray, List.set_cons_zero, List.set_cons_succ]
  refine wpAnyL_take0 (i := 7) (oi := { dst := some 16, op := Go.Op.fieldAddr 98 (Go.Operand.tmp 15) 1, type := 0, pos := "slots.go:33", after := #[{ on := 6, ground := Go.Ground.data }], guard := none }) (v := .pointer (some ⟨b, 3, none⟩)) rfl (by kernel_rfl) (by kernel_rfl) (by kernel_rfl) (by kernel_rfl) (fun _ _ _ h => h) hS (Or.inl ⟨by rfl, fun w hSw => ?_⟩) ?_
  · go_split_ands
    go_simp
  try simp only [Act.put, List.setIfInBounds_toArray, List.set_cons_zero, List.set_cons_succ]
  refine wpAnyL_take (i := 8) (oi := { dst := some 17, op := Go.Op.load 95 (Go.Operand.tmp 16), type := 95, pos := "slots.go:33", after := #[{ on := 7, ground := Go.Ground.data }], guard := none }) (v := .int .u32 nn) rfl (by kernel_rfl) (by kernel_rfl) (by kernel_rfl) (by kernel_rfl) (fun _ _ _ h => h) hS (Or.inl ⟨by rfl, fun w hSw => ?_⟩) ?_
  · go_split_ands
    go_simp
  try simp only [Act.put, List.setIfInBounds_toArray, List.set_cons_zero, List.set_cons_succ]
  refine wpAnyL_take0 (i := 9) (oi := { dst := some 18, op := Go.Op.move (Go.Operand.tmp 1), type := 3, pos := "slots.go:33", after := #[], guard := none }) (v := .int .i64 i) rfl (by kernel_rfl) (by kernel_rfl) (by kernel_rfl) (by kernel_rfl) (fun _ _ _ h => h) hS (Or.inl ⟨by rfl, fun w hSw => ?_⟩) ?_
  · go_split_ands
    go_simp
  try simp only [Act.put, List.setIfInBounds_toArray, List.set_cons_zero, List.set_cons_succ]
  refine wpAnyL_take0 (i := 11) (oi := { dst := some 20, op := Go.Op.move (Go.Operand.tmp 0), type := 131, pos := "slots.go:33", after := #[], guard := none }) (v := .pointer (some ⟨b, 2, none⟩)) rfl (by kernel_rfl) (by kernel_rfl) (by kernel_rfl) (by kernel_rfl) (fun _ _ _ h => h) hS (Or.inl ⟨by rfl, fun w hSw => ?_⟩) ?_
  · go_split_ands
    go_simp
  try simp only [Act.put, List.setIfInBounds_toArray, List.set_cons_zero, List.set_cons_succ]
  refine wpAnyL_take0 (i := 12) (oi := { dst := some 21, op := Go.Op.nilCheck (Go.Operand.tmp 20), type := 0, pos := "slots.go:33", after := #[{ on := 11, ground := Go.Ground.data }], guard := none }) (v := .pointer (some ⟨b, 2, none⟩)) rfl (by kernel_rfl) (by kernel_rfl) (by kernel_rfl) (by kernel_rfl) (fun _ _ _ h => h) hS (Or.inl ⟨by rfl, fun w hSw => ?_⟩) ?_
  · go_split_ands
    go_simp
  try simp only [Act.put, List.setIfInBounds_toArray, List.set_cons_zero, List.set_cons_succ]
  refine wpAnyL_take0 (i := 13) (oi := { dst := some 22, op := Go.Op.fieldAddr 98 (Go.Operand.tmp 21) 1, type := 0, pos := "slots.go:33", after := #[{ on := 12, ground := Go.Ground.data }], guard := none }) (v := .pointer (some ⟨b, 3, none⟩)) rfl (by kernel_rfl) (by kernel_rfl) (by kernel_rfl) (by kernel_rfl) (fun _ _ _ h => h) hS (Or.inl ⟨by rfl, fun w hSw => ?_⟩) ?_
  · go_split_ands
    go_simp
  try simp only [Act.put, List.setIfInBounds_toArray, List.set_cons_zero, List.set_cons_succ]
  refine wpAnyL_take (i := 14) (oi := { dst := some 23, op := Go.Op.load 95 (Go.Operand.tmp 22), type := 95, pos := "slots.go:33", after := #[{ on := 13, ground := Go.Ground.data }], guard := none }) (v := .int .u32 nn) rfl (by kernel_rfl) (by kernel_rfl) (by kernel_rfl) (by kernel_rfl) (fun _ _ _ h => h) hS (Or.inl ⟨by rfl, fun w hSw => ?_⟩) ?_
  · go_split_ands
    go_simp
  try simp only [Act.put, List.setIfInBounds_toArray, List.set_cons_zero, List.set_cons_succ]
  refine wpAnyL_take0 (i := 15) (oi := { dst := some 24, op := Go.Op.move (Go.Operand.tmp 1), type := 3, pos := "slots.go:33", after := #[], guard := none }) (v := .int .i64 i) rfl (by kernel_rfl) (by kernel_rfl) (by kernel_rfl) (by kernel_rfl) (fun _ _ _ h => h) hS (Or.inl ⟨by rfl, fun w hSw => ?_⟩) ?_
  · go_split_ands
    go_simp
  try simp only [Act.put, List.setIfInBounds_toArray, List.set_cons_zero, List.set_cons_succ]
  refine wpAnyL_take0 (i := 17) (oi := { dst := some 26, op := Go.Op.move (Go.Operand.tmp 2), type := 29, pos := "slots.go:33", after := #[], guard := none }) (v := .pointer (some ⟨k, 0, none⟩)) rfl (by kernel_rfl) (by kernel_rfl) (by kernel_rfl) (by kernel_rfl) (fun _ _ _ h => h) hS (Or.inl ⟨by rfl, fun w hSw => ?_⟩) ?_
  · go_split_ands
    go_simp
  try simp only [Act.put, List.setIfInBounds_toArray, List.set_cons_zero, List.set_cons_succ]
  refine wpAnyL_ready (rs := [10]) (by kernel_rfl) (by simp) ?_
  refine AllReadyL.cons (o := { dst := some 19, op := Go.Op.call { callee := Go.Callee.value (Go.Operand.func 71), args := #[Go.Operand.tmp 17, Go.Operand.tmp 18], argTypes := #[95, 3] }, type := 3, pos := "slots.go:33", after := #[{ on := 8, ground := Go.Ground.data }, { on := 9, ground := Go.Ground.data }], guard := none }) rfl (fun K hK => ?_) AllReadyL.nil
  go_simp
  refine (rank_nat _ _ _ hnn).mono ?_
  rintro e w' ⟨rfl, k1, rfl⟩
  go_wp2_with fail
  have hS2 : (fun w' : World => w'.cell? ⟨b, 5, none⟩ = some kv1 ∧ w'.cell? ⟨b, 3, none⟩ = some (.int .u32 nn)) (W.drewN k1) := hS
  refine hK.out _ _ (fun _ => hS2) ?_
  clear hK K hS
  try simp only [Act.put, List.setIfInBounds_toArray, List.set_cons_zero, List.set_cons_succ]
  have h2 := h1d.drewN k1
  have hm2 := hmd.drewN k1
  have hsb2 : base ≤ (W.drewN k1).heap.size := hsbd
  skip
  clear h1d hmd hsbd 
  generalize W.drewN k1 = W2 at *
  have hS := hS2
  clear hS2
  refine wpAnyL_ready (rs := [16]) (by kernel_rfl) (by simp) ?_
  refine AllReadyL.cons (o := { dst := some 25, op := Go.Op.call { callee := Go.Callee.value (Go.Operand.func 72), args := #[Go.Operand.tmp 23, Go.Operand.tmp 24], argTypes := #[95, 3] }, type := 4, pos := "slots.go:33", after := #[{ on := 14, ground := Go.Ground.data }, { on := 15, ground := Go.Ground.data }, { on := 10, ground := Go.Ground.chain }], guard := none }) rfl (fun K hK => ?_) AllReadyL.nil
  go_simp
  refine (has_nat _ _ _ hnn hi tb htb.out.symm).mono ?_
  rintro e w' ⟨rfl, rfl⟩
  go_wp2_with fail
  refine hK.out _ _ (fun _ => hS) ?_
  clear hK K
  try simp only [Act.put, List.setIfInBounds_toArray, List.set_cons_zero, List.set_cons_succ]
  refine wpAnyL_ready (rs := [18]) (by kernel_rfl) (by simp) ?_
  refine AllReadyL.cons (o := { dst := some 27, op := Go.Op.call { callee := Go.Callee.value (Go.Operand.func 77), args := #[Go.Operand.tmp 13, Go.Operand.tmp 19, Go.Operand.tmp 25, Go.Operand.tmp 26], argTypes := #[96, 3, 4, 29] }, type := 96, pos := "slots.go:33", after := #[{ on := 4, ground := Go.Ground.data }, { on := 10, ground := Go.Ground.data }, { on := 16, ground := Go.Ground.data }, { on := 17, ground := Go.Ground.data }, { on := 16, ground := Go.Ground.chain }], guard := none }) rfl (fun K hK => ?_) AllReadyL.nil
  go_simp
  rw [← hrr.out]
  refine (place_kids base r k tb kv1 ks W2 h2.kds (by rw [hrr.out]; exact hle) (fun e => by rw [hrr.out]; exact HR2.out (htb.out.symm.trans e)) (by omega) hsb2).mono ?_
  rintro e w3 ⟨v', rfl, hO, hso, hK3⟩
  go_wp2_with fail
  have hb3 : Blk w3 b 100 #[o, .bool bk, .int .u32 d1, .int .u32 nn, pv1, kv1] := h2.blk.keep hK3 (fun hx => by have := h2.kne; simp at hx; exact this hx)
  skip
  have hS3 : (fun w' : World => w'.cell? ⟨b, 5, none⟩ = some kv1 ∧ w'.cell? ⟨b, 3, none⟩ = some (.int .u32 nn)) w3 := ⟨hb3.cell 5, hb3.cell 3⟩
  refine hK.out _ _ (fun _ => hS3) ?_
  clear hK K hS
  try simp only [Act.put, List.setIfInBounds_toArray, List.set_cons_zero, List.set_cons_succ]
  have hS := hS3
  have h4 := h2.setK (w' := w3) hK3 hO
  have hm4 : Moves b pv kv pv1 v' w (w3.setCell ⟨b, 5, none⟩ v') := by
    refine (hm2.trans ⟨.refl _ _, hso, hK3.sub (by intro y hy; simp only [foot, List.mem_cons, List.mem_append]; exact .inr (.inr hy))⟩).setCell _ _
  have g4 := hb3.cell 5
  have q4 := hb3.frozen 5
  simp only [List.getElem?_toArray, List.getElem?_cons_succ, List.getElem?_cons_zero] at g4
  obtain ⟨Av, nv, cv, rfl⟩ : ∃ Av nv cv, v' = .slice Av nv cv := by
    rcases hO.2 with ⟨e, _⟩ | ⟨g, cap, cur, e, _⟩
    · exact ⟨_, _, _, e⟩
    · exact ⟨_, _, _, e⟩
  clear hO hso hK3 h2 hm2 hsb2 hb3 
  refine wpAnyL_take0 (i := 19) (oi := { dst := some 28, op := Go.Op.nilCheck (Go.Operand.tmp 9), type := 0, pos := "slots.go:33", after := #[{ on := 0, ground := Go.Ground.data }, { on := 0, ground := Go.Ground.phase }, { on := 1, ground := Go.Ground.phase }, { on := 2, ground := Go.Ground.phase }, { on := 3, ground := Go.Ground.phase }, { on := 4, ground := Go.Ground.phase }, { on := 5, ground := Go.Ground.phase }, { on := 6, ground := Go.Ground.phase }, { on := 7, ground := Go.Ground.phase }, { on := 8, ground := Go.Ground.phase }, { on := 9, ground := Go.Ground.phase }, { on := 10, ground := Go.Ground.phase }, { on := 11, ground := Go.Ground.phase }, { on := 12, ground := Go.Ground.phase }, { on := 13, ground := Go.Ground.phase }, { on := 14, ground := Go.Ground.phase }, { on := 15, ground := Go.Ground.phase }, { on := 16, ground := Go.Ground.phase }, { on := 17, ground := Go.Ground.phase }, { on := 18, ground := Go.Ground.phase }], guard := none }) (v := .pointer (some ⟨b, 2, none⟩)) rfl (by kernel_rfl) (by kernel_rfl) (by kernel_rfl) (by kernel_rfl) (fun _ _ _ h => h) hS (Or.inl ⟨by rfl, fun w hSw => ?_⟩) ?_
  · go_split_ands
    go_simp
  try simp only [Act.put, List.setIfInBounds_toArray, List.set_cons_zero, List.set_cons_succ]
  refine wpAnyL_take0 (i := 20) (oi := { dst := some 29, op := Go.Op.fieldAddr 98 (Go.Operand.tmp 28) 3, type := 0, pos := "slots.go:33", after := #[{ on := 19, ground := Go.Ground.data }, { on := 0, ground := Go.Ground.phase }, { on := 1, ground := Go.Ground.phase }, { on := 2, ground := Go.Ground.phase }, { on := 3, ground := Go.Ground.phase }, { on := 4, ground := Go.Ground.phase }, { on := 5, ground := Go.Ground.phase }, { on := 6, ground := Go.Ground.phase }, { on := 7, ground := Go.Ground.phase }, { on := 8, ground := Go.Ground.phase }, { on := 9, ground := Go.Ground.phase }, { on := 10, ground := Go.Ground.phase }, { on := 11, ground := Go.Ground.phase }, { on := 12, ground := Go.Ground.phase }, { on := 13, ground := Go.Ground.phase }, { on := 14, ground := Go.Ground.phase }, { on := 15, ground := Go.Ground.phase }, { on := 16, ground := Go.Ground.phase }, { on := 17, ground := Go.Ground.phase }, { on := 18, ground := Go.Ground.phase }], guard := none }) (v := .pointer (some ⟨b, 5, none⟩)) rfl (by kernel_rfl) (by kernel_rfl) (by kernel_rfl) (by kernel_rfl) (fun _ _ _ h => h) hS (Or.inl ⟨by rfl, fun w hSw => ?_⟩) ?_
  · go_split_ands
    go_simp
  try simp only [Act.put, List.setIfInBounds_toArray, List.set_cons_zero, List.set_cons_succ]
  refine wpAnyL_ready (rs := [21]) (by kernel_rfl) (by simp) ?_
  refine AllReadyL.cons (o := { dst := none, op := Go.Op.store 96 (Go.Operand.tmp 29) (Go.Operand.tmp 27), type := 0, pos := "slots.go:33", after := #[{ on := 20, ground := Go.Ground.data }, { on := 18, ground := Go.Ground.data }, { on := 18, ground := Go.Ground.chain }, { on := 0, ground := Go.Ground.phase }, { on := 1, ground := Go.Ground.phase }, { on := 2, ground := Go.Ground.phase }, { on := 3, ground := Go.Ground.phase }, { on := 4, ground := Go.Ground.phase }, { on := 5, ground := Go.Ground.phase }, { on := 6, ground := Go.Ground.phase }, { on := 7, ground := Go.Ground.phase }, { on := 8, ground := Go.Ground.phase }, { on := 9, ground := Go.Ground.phase }, { on := 10, ground := Go.Ground.phase }, { on := 11, ground := Go.Ground.phase }, { on := 12, ground := Go.Ground.phase }, { on := 13, ground := Go.Ground.phase }, { on := 14, ground := Go.Ground.phase }, { on := 15, ground := Go.Ground.phase }, { on := 16, ground := Go.Ground.phase }, { on := 17, ground := Go.Ground.phase }, { on := 18, ground := Go.Ground.phase }], guard := none }) rfl (fun K hK => ?_) AllReadyL.nil
  go_simp
  refine hK.out _ _ (late_no (by kernel_rfl)) ?_
  clear hK K hS hS3
  try simp only [Act.put, List.setIfInBounds_toArray, List.set_cons_zero, List.set_cons_succ]
  refine wpAnyL_done (by kernel_rfl) ?_ _
  generalize w3.setCell ⟨b, 5, none⟩ (.slice Av nv cv) = W4 at *
  clear g4 q4
  have g5 := h4.blk.cell 3
  simp only [List.getElem?_toArray, List.getElem?_cons_succ, List.getElem?_cons_zero] at g5
  go_wp2_with fail
  refine (with_any _ _ _ hnn).mono ?_
  rintro e w' ⟨rfl, rfl⟩
  have q5 := h4.blk.frozen 3
  have h5 := h4.setN (nn ||| onl (i : Int))
  have hm5 := hm4.setCell 3 (.int .u32 (nn ||| onl (i : Int) : Nat))
  clear h4 hm4
  go_wp2_with fail
  go_end0
  rw [hrr.out, htb.out] at h5
  exact ⟨rfl, _, _, h5, hm5⟩
end Go.Proofs.YtchimfgbdfmegaaGreat
/- A copy of a node's slots; the node that a change is made to. -/
namespace Go.Proofs.YtchimfgbdfmegaaGreat
open Go.RowKit Go.Lib
set_option linter.unusedVariables false
set_option maxRecDepth 100000
set_option maxRecDepth 100000
set_option linter.unusedSimpArgs false
attribute [local irreducible] cnt
theorem keep4 {w w' : World} {b : Nat} {v2 v3 v4 v5 : Value} (h : w.cell? ⟨b, 2, none⟩ = some v2 ∧ w.cell? ⟨b, 3, none⟩ = some v3 ∧ w.cell? ⟨b, 4, none⟩ = some v4 ∧ w.cell? ⟨b, 5, none⟩ = some v5) (hb : Below w.heap.size w w') :
    w'.cell? ⟨b, 2, none⟩ = some v2 ∧ w'.cell? ⟨b, 3, none⟩ = some v3 ∧ w'.cell? ⟨b, 4, none⟩ = some v4 ∧ w'.cell? ⟨b, 5, none⟩ = some v5 := by
  have hl : b < w.heap.size := World.block_lt_of_cell? w _ h.1
  exact ⟨(hb.cell hl).trans h.1, (hb.cell hl).trans h.2.1, (hb.cell hl).trans h.2.2.1, (hb.cell hl).trans h.2.2.2⟩
theorem Own.below {base : Nat} {w w' : World} {v : Value} {xs : List Pr} (h : Own base w v xs) (hb : Below w.heap.size w w') : Own base w' v xs := own_keep h (Keep.of_below (X := []) hb) (by simp)
theorem OwnK.below {base : Nat} {w w' : World} {v : Value} {xs : List Nat} (h : OwnK base w v xs) (hb : Below w.heap.size w w') : OwnK base w' v xs := own_keep h (Keep.of_below (X := []) hb) (by simp)
theorem Blk.below {w w' : World} {g : Nat} {t : TypeId} {cs : Array Value} (h : Blk w g t cs) (hb : Below w.heap.size w w') : Blk w' g t cs := h.keep (Keep.of_below (X := []) hb) (by simp)
theorem Own.form {base : Nat} {w : World} {v : Value} {xs : List Pr} (h : Own base w v xs) : ∃ A n c, v = .slice A n c := by
  rcases h.2 with ⟨e, _⟩ | ⟨g, cap, cur, e, _⟩
  · exact ⟨_, _, _, e⟩
  · exact ⟨_, _, _, e⟩
theorem OwnK.form {base : Nat} {w : World} {v : Value} {xs : List Nat} (h : OwnK base w v xs) : ∃ A n c, v = .slice A n c := by
  rcases h.2 with ⟨e, _⟩ | ⟨g, cap, cur, e, _⟩
  · exact ⟨_, _, _, e⟩
  · exact ⟨_, _, _, e⟩
theorem four {w : World} {g : Nat} {t : TypeId} {a b c d : Value} (h : Blk w g t #[a, b, c, d]) :
    (w.cell? ⟨g, 0, none⟩ = some a ∧ w.cell? ⟨g, 1, none⟩ = some b ∧ w.cell? ⟨g, 2, none⟩ = some c ∧ w.cell? ⟨g, 3, none⟩ = some d) ∧
    (w.frozen? ⟨g, 0, none⟩ = false ∧ w.frozen? ⟨g, 1, none⟩ = false ∧ w.frozen? ⟨g, 2, none⟩ = false ∧ w.frozen? ⟨g, 3, none⟩ = false) :=
  ⟨⟨h.cell 0, h.cell 1, h.cell 2, h.cell 3⟩, h.frozen 0, h.frozen 1, h.frozen 2, h.frozen 3⟩
def CopyPost (d nn : Nat) (xs : List Pr) (ks : List Nat) (w : World) (e : Ending) (w' : World) : Prop :=
  ∃ pv' kv', e = .returned (.agg #[.int .u32 d, .int .u32 nn, pv', kv']) ∧ Own w.heap.size w' pv' xs ∧ OwnK w.heap.size w' kv' ks ∧ Below w.heap.size w w'
set_option maxRecDepth 100000 in
set_option maxHeartbeats 8000000 in
theorem copied_any (base b : Nat) (o : Value) (bk : Bool) (d nn : Nat) (pv kv : Value) (xs : List Pr) (ks : List Nat) (w : World) (h : NdV base w b o bk d nn pv kv xs ks) (hn1 : xs.length ≤ 800) (hn2 : ks.length ≤ 800) :
    Calls Tryz.prog 70 #[.pointer (some ⟨b, 2, none⟩)] w (CopyPost d nn xs ks w) := by
  have hlt := h.blk.lt
  have hbx : Blk (w.alloc (.cells #[.int .u32 0, .int .u32 0, .slice none 0 0, .slice none 0 0] 98)).drew w.heap.size 98 #[.int .u32 0, .int .u32 0, .slice none 0 0, .slice none 0 0] := Blk.new w 98 _
  have hN0 := h.below ((Below.refl _ w).alloc (Nat.le_refl _) (.cells #[.int .u32 0, .int .u32 0, .slice none 0 0, .slice none 0 0] 98))
  have hBe : Below w.heap.size w (w.alloc (.cells #[.int .u32 0, .int .u32 0, .slice none 0 0, .slice none 0 0] 98)).drew := ((Below.refl _ w).alloc (Nat.le_refl _) _).drew
  go_enter Tryz.func70, Tryz.ntmps70
  go_wp2_with fail
  generalize hW0 : w.alloc (.cells #[.int .u32 0, .int .u32 0, .slice none 0 0, .slice none 0 0] 98) = W0 at *
  clear hW0
  obtain ⟨N, hN⟩ : ∃ N, N = w.heap.size := ⟨_, rfl⟩
  rw [← hN] at hbx hBe hlt ⊢
  obtain ⟨c0, c1, c2, c3, c4, c5⟩ := hN0.cells
  have hne : ¬ (b = N) := by omega
  have hne' : ¬ (N = b) := by omega
  have hP : Own base W0.drew pv xs := hN0.prs
  have hKd : OwnK base W0.drew kv ks := hN0.kds
  have HN := Lib.hid hN
  have hs1 : Hid (W0.drew.heap.size ≤ W0.drew.heap.size) := Lib.hid (Nat.le_refl _)
  clear hN h hN0 c0 c1
  go_region_held3 (fun w' : World => w'.cell? ⟨b, 2, none⟩ = some (.int .u32 d) ∧ w'.cell? ⟨b, 3, none⟩ = some (.int .u32 nn) ∧ w'.cell? ⟨b, 4, none⟩ = some pv ∧ w'.cell? ⟨b, 5, none⟩ = some kv) (first | exact ⟨c2, c3, c4, c5⟩ | exact keep4 (by assumption) hB | go_keep) (first
    | (have _g := hO1; clear _g; go_at_call 94; refine (clone_kids base kv ks _ hKd (by omega)).mono ?_; rintro e w2 ⟨v2, rfl, hO2, hB⟩; replace hO2 := hO2.base (b' := N) (Nat.le_trans (Nat.le_of_eq HN.out) hBe.size); replace hO1 := hO1.below hB; replace hbx := hbx.below hB; replace hBe := hBe.trans (hB.mono (Nat.le_trans (Nat.le_of_eq HN.out) hBe.size)); obtain ⟨A2, n2, q2, rfl⟩ := hO2.form; obtain ⟨⟨z0, z1, z2, z3⟩, y0, y1, y2, y3⟩ := four hbx)
    | (go_at_call 93; refine (clone_pairs base pv xs _ hP (by omega)).mono ?_; rintro e w1 ⟨v1, rfl, hO1, hB⟩; replace hO1 := hO1.base (b' := N) (Nat.le_trans (Nat.le_of_eq HN.out) hBe.size); replace hKd := hKd.below hB; replace hbx := hbx.below hB; replace hBe := hBe.trans (hB.mono (Nat.le_trans (Nat.le_of_eq HN.out) hBe.size)); obtain ⟨A1, n1, q1, rfl⟩ := hO1.form))
  have hb9 : Blk ((((w2.setCell ⟨N, 0, none⟩ (.int .u32 d)).setCell ⟨N, 1, none⟩ (.int .u32 nn)).setCell ⟨N, 2, none⟩ (.slice A1 n1 q1)).setCell ⟨N, 3, none⟩ (.slice A2 n2 q2)) N 98 #[.int .u32 d, .int .u32 nn, .slice A1 n1 q1, .slice A2 n2 q2] :=
    (((hbx.set_ 0 (.int .u32 d)).set_ 1 (.int .u32 nn)).set_ 2 (.slice A1 n1 q1)).set_ 3 (.slice A2 n2 q2)
  have e1 : (Value.slice A1 n1 q1).ownBlock ≠ some N := own_ne hO1 (fun cur e => by unfold Blk at hbx; rw [hbx] at e; cases e)
  have e2 : (Value.slice A2 n2 q2).ownBlock ≠ some N := own_ne hO2 (fun cur e => by unfold Blk at hbx; rw [hbx] at e; cases e)
  have hO19 : Own N ((((w2.setCell ⟨N, 0, none⟩ (.int .u32 d)).setCell ⟨N, 1, none⟩ (.int .u32 nn)).setCell ⟨N, 2, none⟩ (.slice A1 n1 q1)).setCell ⟨N, 3, none⟩ (.slice A2 n2 q2)) (.slice A1 n1 q1) xs :=
    ownsRow_setCell_other (ownsRow_setCell_other (ownsRow_setCell_other (ownsRow_setCell_other hO1 e1 _) e1 _) e1 _) e1 _
  have hO29 : OwnK N ((((w2.setCell ⟨N, 0, none⟩ (.int .u32 d)).setCell ⟨N, 1, none⟩ (.int .u32 nn)).setCell ⟨N, 2, none⟩ (.slice A1 n1 q1)).setCell ⟨N, 3, none⟩ (.slice A2 n2 q2)) (.slice A2 n2 q2) ks :=
    ownsRow_setCell_other (ownsRow_setCell_other (ownsRow_setCell_other (ownsRow_setCell_other hO2 e2 _) e2 _) e2 _) e2 _
  have hB9 : Below N w ((((w2.setCell ⟨N, 0, none⟩ (.int .u32 d)).setCell ⟨N, 1, none⟩ (.int .u32 nn)).setCell ⟨N, 2, none⟩ (.slice A1 n1 q1)).setCell ⟨N, 3, none⟩ (.slice A2 n2 q2)) :=
    (((hBe.setCell (p := ⟨N, 0, none⟩) (Nat.le_refl _) _).setCell (p := ⟨N, 1, none⟩) (Nat.le_refl _) _).setCell (p := ⟨N, 2, none⟩) (Nat.le_refl _) _).setCell (p := ⟨N, 3, none⟩) (Nat.le_refl _) _
  generalize (((w2.setCell ⟨N, 0, none⟩ (.int .u32 d)).setCell ⟨N, 1, none⟩ (.int .u32 nn)).setCell ⟨N, 2, none⟩ (.slice A1 n1 q1)).setCell ⟨N, 3, none⟩ (.slice A2 n2 q2) = W9 at *
  clear z0 z1 z2 z3 y0 y1 y2 y3 hbx hBe hO1 hO2 hB hKd hP c2 c3 c4 c5 e1 e2
  obtain ⟨⟨z0, z1, z2, z3⟩, -⟩ := four hb9
  go_wp2_with fail
  refine bodyPost_ret (v := .agg #[.int .u32 d, .int .u32 nn, .slice A1 n1 q1, .slice A2 n2 q2]) (by simp [results, Tryz.results70, go_sem, z0, z1, z2, z3]) rfl ?_
  rw [HN.out] at hO19 hO29 hB9
  exact ⟨_, _, rfl, hO19, hO29, hB9⟩
end Go.Proofs.YtchimfgbdfmegaaGreat
/- Whose own a node is; what is read of a node. -/
namespace Go.Proofs.YtchimfgbdfmegaaGreat
open Go.RowKit Go.Lib
set_option linter.unusedVariables false
set_option maxRecDepth 100000
set_option maxRecDepth 100000
set_option linter.unusedSimpArgs false
attribute [local irreducible] cnt
/-- a pointer to a block, or nil -/
def pt : Option Nat → Value
  | none => .pointer none
  | some t => at0 t
/-- a token, or nil: whether it is live -/
def TV (w : World) (tk : Option Nat) (l : Bool) : Prop := (tk = none ∧ l = false) ∨ ∃ t p id, tk = some t ∧ Tok w t p id l
theorem TV.nil (w : World) : TV w none false := .inl ⟨rfl, rfl⟩
theorem TV.tok {w : World} {t p id : Nat} {l : Bool} (h : Tok w t p id l) : TV w (some t) l := .inr ⟨t, p, id, rfl, h⟩
theorem Tok.type {w : World} {t p id : Nat} {l : Bool} (h : Tok w t p id l) {X : List Nat} (hX : ∀ x ∈ X, ∀ cs, ¬ Blk w x 107 cs) : t ∉ X := fun hm => hX t hm _ h
theorem TV.keep {w w' : World} {tk : Option Nat} {l : Bool} (h : TV w tk l) {X : List Nat} (hk : Keep X w w') (hX : ∀ x ∈ X, ∀ cs, ¬ Blk w x 107 cs) : TV w' tk l := by
  rcases h with h | ⟨t, p, id, e, h⟩
  · exact .inl h
  · exact .inr ⟨t, p, id, e, h.keep hk (h.type hX)⟩
theorem TV.below {w w' : World} {tk : Option Nat} {l : Bool} (h : TV w tk l) (hb : Below w.heap.size w w') : TV w' tk l := h.keep (Keep.of_below (X := []) hb) (by simp)
theorem TV.drewN {w : World} {tk : Option Nat} {l : Bool} (h : TV w tk l) (n : Nat) : TV (w.drewN n) tk l := h
theorem live_tv (tk : Option Nat) (l : Bool) (w : World) (h : TV w tk l) : Calls Tryz.prog 53 #[pt tk] w fun e w' => e = .returned (.bool l) ∧ w = w' := by
  rcases h with ⟨rfl, rfl⟩ | ⟨t, p, id, rfl, h⟩
  · exact live_nil w
  · exact live_any t p id l w h
section
variable {base : Nat} {w : World} {b : Nat} {o : Value} {bk : Bool} {d nn : Nat} {pv kv : Value} {xs : List Pr} {ks : List Nat}
/-- no block of a node is a token's -/
theorem NdV.noTok (h : NdV base w b o bk d nn pv kv xs ks) : ∀ x ∈ foot b pv kv, ∀ cs, ¬ Blk w x 107 cs := by
  intro x hx cs hb
  simp only [foot, List.mem_cons, List.mem_append, Option.mem_toList] at hx
  unfold Blk at hb
  rcases hx with rfl | e | e
  · have := h.blk; unfold Blk at this; rw [this] at hb; cases hb
  · obtain ⟨cur, hc⟩ := own_cells h.prs x e; rw [hc] at hb; cases hb
  · obtain ⟨cur, hc⟩ := own_cells h.kds x e; rw [hc] at hb; cases hb
end
/-- whether a token that is live, or not, may change a node of that owner -/
def ownB (ow tk : Option Nat) (l : Bool) : Bool := l && decide (ow = tk)
theorem owned_dead (b : Nat) (tk : Option Nat) (w : World) (ht : TV w tk false) :
    Calls Tryz.prog 69 #[at0 b, pt tk] w fun e w' => e = .returned (.bool false) ∧ w = w' := by
  unfold at0
  go_enter Tryz.func69, Tryz.ntmps69
  go_wp2_with fail
  refine (live_tv tk false w ht).mono ?_
  rintro e w' ⟨rfl, rfl⟩
  go_wp2_with fail
  go_ret
  exact ⟨rfl, rfl⟩
theorem owned_nil (tv : Value) (w : World) : Calls Tryz.prog 69 #[.pointer none, tv] w fun e w' => e = .returned (.bool false) ∧ w = w' := by
  go_enter Tryz.func69, Tryz.ntmps69
  go_wp2_with fail
  go_ret
  exact ⟨rfl, rfl⟩
theorem eql_tok_nil (a : Addr) (w : World) : (binOp .eql 69 (.pointer none) (.pointer (some a))).run Tryz.prog w = .ok (.bool false) w := by
  obtain ⟨j, hj, -⟩ := info86
  have h : ∀ d : Nat, (Op.equalIn (d + 1) 69 (.pointer none) (.pointer (some a))).run Tryz.prog w = .ok false w := fun d => by
    simp [Op.equalIn, run_underlying Tryz.underlying69, sizeOf, typeInfo, hj]
  simp only [binOp]
  simp [Op.equal, Op.maxDepth, h 9999]
set_option maxRecDepth 100000 in
theorem owned_live (base b t p id : Nat) (ow : Option Nat) (lo bk : Bool) (d nn : Nat) (pv kv : Value) (xs : List Pr) (ks : List Nat) (w : World) (h : NdV base w b (pt ow) bk d nn pv kv xs ks) (ht : Tok w t p id true) (ho : TV w ow lo) :
    Calls Tryz.prog 69 #[at0 b, at0 t] w fun e w' => e = .returned (.bool (decide (ow = some t))) ∧ w = w' := by
  obtain ⟨c0, c1, c2, c3, c4, c5⟩ := h.cells
  have hlv := live_any t p id true w ht
  clear h c1 c2 c3 c4 c5
  rcases ho with ⟨rfl, rfl⟩ | ⟨t', p', id', rfl, h'⟩
  · unfold pt at c0
    have hne := eql_tok_nil ⟨t, 0, none⟩ w
    unfold at0 at *
    clear ht
    go_enter Tryz.func69, Tryz.ntmps69
    go_wp2_with fail
    refine hlv.mono ?_
    rintro e w' ⟨rfl, rfl⟩
    go_wp2_with fail
    go_ret
    exact ⟨rfl, rfl⟩
  · by_cases e : t' = t
    · subst e
      have hd : decide (some t' = some t') = true := by simp
      rw [hd]
      obtain ⟨j, hj, hs⟩ := info86
      have hsame := run_eql_ptr_same (P := Tryz.prog) (w := w) ⟨t', 0, none⟩ Tryz.underlying69 hj
      unfold pt at c0
      unfold at0 at *
      clear ht h' hd
      go_enter Tryz.func69, Tryz.ntmps69
      go_wp2_with fail
      refine hlv.mono ?_
      rintro e w' ⟨rfl, rfl⟩
      go_wp2_with fail
      go_ret
      exact ⟨rfl, rfl⟩
    · have hne := eql_tok_other w e h' ht
      have hd : decide (some t' = some t) = false := by simp [e]
      rw [hd]
      unfold pt at c0
      unfold at0 at *
      clear ht h' hd e
      go_enter Tryz.func69, Tryz.ntmps69
      go_wp2_with fail
      refine hlv.mono ?_
      rintro e w' ⟨rfl, rfl⟩
      go_wp2_with fail
      go_ret
      exact ⟨rfl, rfl⟩
theorem owned_any (base b : Nat) (ow tk : Option Nat) (lo l bk : Bool) (d nn : Nat) (pv kv : Value) (xs : List Pr) (ks : List Nat) (w : World) (h : NdV base w b (pt ow) bk d nn pv kv xs ks) (ht : TV w tk l) (ho : TV w ow lo) :
    Calls Tryz.prog 69 #[at0 b, pt tk] w fun e w' => e = .returned (.bool (ownB ow tk l)) ∧ w = w' := by
  cases l with
  | false => exact owned_dead b tk w ht
  | true =>
    rcases ht with ⟨_, h0⟩ | ⟨t, p, id, rfl, ht⟩
    · cases h0
    · exact owned_live base b t p id ow lo bk d nn pv kv xs ks w h ht ho
end Go.Proofs.YtchimfgbdfmegaaGreat
