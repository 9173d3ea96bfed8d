/- The slots of a node in memory: clearing a chunk. -/
import Derived.Test.YtgldgdpgbfejmaaMO
import Derived.Test.YtgldgdpgbfejmaaMT
namespace Go.Proofs.Ytgldgdpgbfejmaa
open Go.RowKit Go.Lib
set_option linter.unusedVariables false
set_option linter.unusedSimpArgs false
attribute [local irreducible] cnt
theorem rank_nat (d i : Nat) (w : World) (h : d < 4294967296) : Calls Try.prog 64 #[.int .u32 d, .int .i64 i] w fun e w' => e = .returned (.int .i64 (cnt i d)) ∧ ∃ k, w' = w.drewN k := rank_any d i w h
theorem has_nat (d i : Nat) (w : World) (h : d < 4294967296) (hi : i < 32) (b : Bool) (hb : d.testBit i = b) : Calls Try.prog 63 #[.int .u32 d, .int .i64 i] w fun e w' => e = .returned (.bool b) ∧ w = w' :=
  (has_any d i w h).mono fun e w' ⟨he, hw⟩ => ⟨by rw [he, has_bit d i hi, hb], hw⟩
/-- the blocks of a node -/
def foot (b : Nat) (pv kv : Value) : List Nat := b :: (pv.ownBlock.toList ++ kv.ownBlock.toList)
/-- a node in memory, field by field -/
structure NdV (base : Nat) (w : World) (b : Nat) (o : Value) (bk : Bool) (d nn : Nat) (pv kv : Value) (xs : List Pr) (ks : List Nat) : Prop where
  blk : Blk w b 98 #[o, .bool bk, .int .u32 d, .int .u32 nn, pv, kv]
  ge : base ≤ b
  prs : Own base w pv xs
  kds : OwnK base w kv ks
section
variable {base : Nat} {w w' : World} {b : Nat} {o : Value} {bk : Bool} {d nn : Nat} {pv kv : Value} {xs : List Pr} {ks : List Nat}
theorem NdV.cells (h : NdV base w b o bk d nn pv kv xs ks) : (w.cell? ⟨b, 0, none⟩ = some o ∧ w.cell? ⟨b, 1, none⟩ = some (.bool bk) ∧ w.cell? ⟨b, 2, none⟩ = some (.int .u32 d) ∧ w.cell? ⟨b, 3, none⟩ = some (.int .u32 nn) ∧ w.cell? ⟨b, 4, none⟩ = some pv ∧ w.cell? ⟨b, 5, none⟩ = some kv) :=
  ⟨h.blk.cell 0, h.blk.cell 1, h.blk.cell 2, h.blk.cell 3, h.blk.cell 4, h.blk.cell 5⟩
theorem NdV.pne (h : NdV base w b o bk d nn pv kv xs ks) : pv.ownBlock ≠ some b := own_ne h.prs (fun cur e => by have := h.blk; unfold Blk at this; rw [this] at e; cases e)
theorem NdV.kne (h : NdV base w b o bk d nn pv kv xs ks) : kv.ownBlock ≠ some b := own_ne h.kds (fun cur e => by have := h.blk; unfold Blk at this; rw [this] at e; cases e)
theorem NdV.pk (h : NdV base w b o bk d nn pv kv xs ks) : ∀ g, pv.ownBlock = some g → kv.ownBlock ≠ some g := by
  intro g hg hg2
  obtain ⟨c1, hc1⟩ := own_cells h.prs g hg
  obtain ⟨c2, hc2⟩ := own_cells h.kds g hg2
  rw [hc1] at hc2
  cases hc2
theorem NdV.keep (h : NdV base w b o bk d nn pv kv xs ks) {X : List Nat} (hk : Keep X w w') (hX : ∀ x ∈ foot b pv kv, x ∉ X) : NdV base w' b o bk d nn pv kv xs ks :=
  ⟨h.blk.keep hk (hX b (by simp [foot])), h.ge, own_keep h.prs hk (fun x hx e => hX x (by simp [foot, e]) hx), own_keep h.kds hk (fun x hx e => hX x (by simp [foot, e]) hx)⟩
theorem NdV.below (h : NdV base w b o bk d nn pv kv xs ks) (hb : Below w.heap.size w w') : NdV base w' b o bk d nn pv kv xs ks := h.keep (Keep.of_below (X := []) hb) (by simp)
theorem NdV.drewN (h : NdV base w b o bk d nn pv kv xs ks) (n : Nat) : NdV base (w.drewN n) b o bk d nn pv kv xs ks := ⟨h.blk, h.ge, h.prs, h.kds⟩
/-- another field's value is stored -/
theorem NdV.setP (h : NdV base w b o bk d nn pv kv xs ks) {pv' : Value} {xs' : List Pr} (hk : Keep pv.ownBlock.toList w w') (hp : Own base w' pv' xs') :
    NdV base (w'.setCell ⟨b, 4, none⟩ pv') b o bk d nn pv' kv xs' ks := by
  have hb : Blk w' b 98 #[o, .bool bk, .int .u32 d, .int .u32 nn, pv, kv] := h.blk.keep hk (fun hm => by have := h.pne; simp at hm; exact this hm)
  have hkk : OwnK base w' kv ks := own_keep h.kds hk (fun x hx e => by simp at hx; exact h.pk x hx e)
  have hne : pv'.ownBlock ≠ some b := own_ne hp (fun cur e => by unfold Blk at hb; rw [hb] at e; cases e)
  exact ⟨hb.set_ 4 pv', h.ge, ownsRow_setCell_other hp hne _, ownsRow_setCell_other hkk h.kne _⟩
theorem NdV.setK (h : NdV base w b o bk d nn pv kv xs ks) {kv' : Value} {ks' : List Nat} (hk : Keep kv.ownBlock.toList w w') (hp : OwnK base w' kv' ks') :
    NdV base (w'.setCell ⟨b, 5, none⟩ kv') b o bk d nn pv kv' xs ks' := by
  have hb : Blk w' b 98 #[o, .bool bk, .int .u32 d, .int .u32 nn, pv, kv] := h.blk.keep hk (fun hm => by have := h.kne; simp at hm; exact this hm)
  have hpp : Own base w' pv xs := own_keep h.prs hk (fun x hx e => by simp at hx; exact h.pk x e hx)
  have hne : kv'.ownBlock ≠ some b := own_ne hp (fun cur e => by unfold Blk at hb; rw [hb] at e; cases e)
  exact ⟨hb.set_ 5 kv', h.ge, ownsRow_setCell_other hpp h.pne _, ownsRow_setCell_other hp hne _⟩
theorem NdV.setD (h : NdV base w b o bk d nn pv kv xs ks) (d' : Nat) : NdV base (w.setCell ⟨b, 2, none⟩ (.int .u32 d')) b o bk d' nn pv kv xs ks :=
  ⟨h.blk.set_ 2 (.int .u32 d'), h.ge, ownsRow_setCell_other h.prs h.pne _, ownsRow_setCell_other h.kds h.kne _⟩
theorem NdV.setN (h : NdV base w b o bk d nn pv kv xs ks) (d' : Nat) : NdV base (w.setCell ⟨b, 3, none⟩ (.int .u32 d')) b o bk d d' pv kv xs ks :=
  ⟨h.blk.set_ 3 (.int .u32 d'), h.ge, ownsRow_setCell_other h.prs h.pne _, ownsRow_setCell_other h.kds h.kne _⟩
theorem NdV.setO (h : NdV base w b o bk d nn pv kv xs ks) (o' : Value) : NdV base (w.setCell ⟨b, 0, none⟩ o') b o' bk d nn pv kv xs ks :=
  ⟨h.blk.set_ 0 o', h.ge, ownsRow_setCell_other h.prs h.pne _, ownsRow_setCell_other h.kds h.kne _⟩
end
theorem Keep.comp {X Y : List Nat} {a b c : World} (h : Keep X a b) (k : Keep Y b c) (hY : ∀ y ∈ Y, y ∈ X ∨ a.heap.size ≤ y) : Keep X a c :=
  ⟨h.all.trans k.all, fun i hi hx => (k.block i (Nat.lt_of_lt_of_le hi h.all.size) (fun hy => by
    rcases hY i hy with e | e
    · exact hx e
    · omega)).trans (h.block i hi hx)⟩
def Moves (b : Nat) (pv kv pv' kv' : Value) (w w' : World) : Prop := SameOrNew pv pv' w.heap.size ∧ SameOrNew kv kv' w.heap.size ∧ Keep (foot b pv kv) w w'
theorem SameOrNew.refl (v : Value) (n : Nat) : SameOrNew v v n := fun g hg => .inl hg
theorem SameOrNew.trans {a b c : Value} {n m : Nat} (h : SameOrNew a b n) (k : SameOrNew b c m) (hnm : n ≤ m) : SameOrNew a c n := fun g hg => by
  rcases k g hg with e | e
  · exact h g e
  · exact .inr (by omega)
theorem Moves.refl (b : Nat) (pv kv : Value) (w : World) : Moves b pv kv pv kv w w := ⟨.refl _ _, .refl _ _, Keep.refl _ _⟩
theorem Moves.trans {b : Nat} {p k p1 k1 p2 k2 : Value} {w w1 w2 : World} (h : Moves b p k p1 k1 w w1) (g : Moves b p1 k1 p2 k2 w1 w2) : Moves b p k p2 k2 w w2 := by
  have hs := h.2.2.all.size
  refine ⟨h.1.trans g.1 hs, h.2.1.trans g.2.1 hs, h.2.2.comp g.2.2 fun y hy => ?_⟩
  simp only [foot, List.mem_cons, List.mem_append, Option.mem_toList] at hy ⊢
  rcases hy with hy | hy | hy
  · exact .inl (.inl hy)
  · rcases h.1 y hy with e | e
    · exact .inl (.inr (.inl e))
    · exact .inr e
  · rcases h.2.1 y hy with e | e
    · exact .inl (.inr (.inr e))
    · exact .inr e
theorem Moves.drewN {b : Nat} {p k p1 k1 : Value} {w w1 : World} (h : Moves b p k p1 k1 w w1) (n : Nat) : Moves b p k p1 k1 w (w1.drewN n) := ⟨h.1, h.2.1, h.2.2.drewN n⟩
theorem Moves.setCell {b : Nat} {p k p1 k1 : Value} {w w1 : World} (h : Moves b p k p1 k1 w w1) (i : Nat) (u : Value) : Moves b p k p1 k1 w (w1.setCell ⟨b, i, none⟩ u) := ⟨h.1, h.2.1, h.2.2.setCell (by simp [foot]) u⟩
theorem Moves.alloc {b : Nat} {p k p1 k1 : Value} {w w1 : World} (h : Moves b p k p1 k1 w w1) (o : Obj) : Moves b p k p1 k1 w (w1.alloc o) := ⟨h.1, h.2.1, h.2.2.alloc o⟩
/-- a set without a chunk, a list without that chunk's element -/
def clrB (d i : Nat) : Nat := if d.testBit i = true then wo d (onl (i : Int)) else d
def clrL {α : Type} (d i : Nat) (l : List α) : List α := if d.testBit i = true then l.eraseIdx (cnt i d) else l
/-- what clearing or setting a chunk leaves -/
def SlotPost (base b : Nat) (o : Value) (bk : Bool) (d nn : Nat) (xs : List Pr) (ks : List Nat) (pv kv : Value) (w : World) (e : Ending) (w' : World) : Prop :=
  e = .returned (.tuple #[]) ∧ ∃ pv' kv', NdV base w' b o bk d nn pv' kv' xs ks ∧ Moves b pv kv pv' kv' w w'

set_option maxRecDepth 100000 in
set_option maxHeartbeats 4000000 in
theorem clearPair_yes (base b i : Nat) (o : Value) (bk : Bool) (d nn : Nat) (pv kv : Value) (xs : List Pr) (ks : List Nat) (w : World) (h : NdV base w b o bk d nn pv kv xs ks) (hd : d < 4294967296) (hi : i < 32) (hb : d.testBit i = true) (hr : cnt i d < xs.length) (hn : xs.length ≤ 900) :
    Calls Try.prog 58 #[.pointer (some ⟨b, 2, none⟩), .int .i64 i] w (SlotPost base b o bk (wo d (onl (i : Int))) nn (xs.eraseIdx (cnt i d)) ks pv kv w) := by
  obtain ⟨c0, c1, c2, c3, c4, c5⟩ := h.cells
  have f := h.blk.frozen
  obtain ⟨r, hrr⟩ : ∃ r, r = cnt i d := ⟨_, rfl⟩
  have F1 : IntKind.i64.wrap ((r : Int) + 1) = ((r + 1 : Nat) : Int) := by rw [IntWalk.i64_in _ (by omega)]; omega
  have HB := Lib.hid hb
  clear hb
  go_enter Try.func58, Try.ntmps58
  go_wp2_with fail
  refine (has_nat _ _ _ hd hi true HB.out).mono ?_
  rintro e w' ⟨rfl, rfl⟩
  go_wp2_with fail
  refine (rank_nat _ _ _ hd).mono ?_
  rintro e w' ⟨rfl, k, rfl⟩
  rw [← hrr] at hr ⊢
  have HR := Lib.hid hrr
  clear hrr
  have h1 := h.drewN k
  have hm := (Moves.refl b pv kv w).drewN k
  have hk0 := (Keep.refl [] w).drewN k
  clear c0 c1 c2 c3 c4 c5 f
  generalize w.drewN k = W at *
  obtain ⟨c0, c1, c2, c3, c4, c5⟩ := h1.cells
  have f := h1.blk.frozen
  go_wp2_with fail
  refine (del_pairs base r (r + 1) xs.length pv _ W h1.prs hr (Lib.hid rfl) (by omega) (flat_one xs)).mono ?_
  rintro e w1 ⟨g, cap, hv, rfl, hO, hK0⟩
  have hK : Keep pv.ownBlock.toList W w1 := by rw [hv]; exact hK0
  rw [flat_del] at hO
  have hO2 : Own base w1 (.slice (some ⟨g, 0, none⟩) (xs.length - 1) cap) (xs.eraseIdx r) := by
    unfold Own
    rw [List.length_eraseIdx_of_lt hr]
    exact hO
  have h2 := h1.setP (w' := w1) hK hO2
  have hm2 : Moves b pv kv (.slice (some ⟨g, 0, none⟩) (xs.length - 1) cap) kv w (w1.setCell ⟨b, 4, none⟩ (.slice (some ⟨g, 0, none⟩) (xs.length - 1) cap)) := by
    refine (hm.trans ⟨(fun x hx => .inl (by rw [hv]; exact hx)), .refl _ _, hK.sub (by intro x hx; simp only [foot, List.mem_cons, List.mem_append]; exact .inr (.inl hx))⟩).setCell _ _
  have hb1 : Blk w1 b 98 #[o, .bool bk, .int .u32 d, .int .u32 nn, pv, kv] := h1.blk.keep hK (fun hx => by have := h1.pne; simp at hx; exact this hx)
  have g2 := hb1.cell 2
  have g3 := hb1.cell 3
  have g4 := hb1.cell 4
  have q4 := hb1.frozen 4
  simp only [List.getElem?_toArray, List.getElem?_cons_succ, List.getElem?_cons_zero] at g2 g3 g4
  clear c0 c1 c2 c3 c4 c5 f hb1 hK hK0 hO hO2 h1 hm h hv
  go_wp2_with fail
  clear g2 g3 g4 q4
  generalize w1.setCell ⟨b, 4, none⟩ (.slice (some ⟨g, 0, none⟩) (xs.length - 1) cap) = W2 at *
  refine (without_any _ _ _ hd).mono ?_
  rintro e w' ⟨rfl, rfl⟩
  have g5 := h2.blk.cell 2
  have q5 := h2.blk.frozen 2
  simp only [List.getElem?_toArray, List.getElem?_cons_succ, List.getElem?_cons_zero] at g5
  have h3 := h2.setD (wo d (onl (i : Int)))
  have hm3 := hm2.setCell 2 (.int .u32 (wo d (onl (i : Int))))
  clear h2 hm2
  go_wp2_with fail
  go_end0
  rw [← HR.out]
  exact ⟨rfl, _, _, h3, hm3⟩
set_option maxRecDepth 100000 in
set_option maxHeartbeats 4000000 in
theorem clearPair_no (base b i : Nat) (o : Value) (bk : Bool) (d nn : Nat) (pv kv : Value) (xs : List Pr) (ks : List Nat) (w : World) (h : NdV base w b o bk d nn pv kv xs ks) (hd : d < 4294967296) (hi : i < 32) (hb : d.testBit i = false) :
    Calls Try.prog 58 #[.pointer (some ⟨b, 2, none⟩), .int .i64 i] w (SlotPost base b o bk d nn xs ks pv kv w) := by
  obtain ⟨c0, c1, c2, c3, c4, c5⟩ := h.cells
  have HB := Lib.hid hb
  clear hb
  go_enter Try.func58, Try.ntmps58
  go_wp2_with fail
  refine (has_nat _ _ _ hd hi false HB.out).mono ?_
  rintro e w' ⟨rfl, rfl⟩
  go_wp2_with fail
  go_end0
  exact ⟨rfl, _, _, h, Moves.refl _ _ _ _⟩
theorem clearPair_any (base b i : Nat) (o : Value) (bk : Bool) (d nn : Nat) (pv kv : Value) (xs : List Pr) (ks : List Nat) (w : World) (h : NdV base w b o bk d nn pv kv xs ks) (hd : d < 4294967296) (hi : i < 32) (hr : d.testBit i = true → cnt i d < xs.length) (hn : xs.length ≤ 900) :
    Calls Try.prog 58 #[.pointer (some ⟨b, 2, none⟩), .int .i64 i] w (SlotPost base b o bk (clrB d i) nn (clrL d i xs) ks pv kv w) := by
  unfold clrB clrL
  cases hb : d.testBit i with
  | true => rw [if_pos rfl, if_pos rfl]; exact clearPair_yes base b i o bk d nn pv kv xs ks w h hd hi hb (hr hb) hn
  | false => rw [if_neg (by decide), if_neg (by decide)]; exact clearPair_no base b i o bk d nn pv kv xs ks w h hd hi hb

set_option maxRecDepth 100000 in
set_option maxHeartbeats 4000000 in
theorem clearKid_yes (base b i : Nat) (o : Value) (bk : Bool) (d nn : Nat) (pv kv : Value) (xs : List Pr) (ks : List Nat) (w : World) (h : NdV base w b o bk d nn pv kv xs ks) (hd : nn < 4294967296) (hi : i < 32) (hb : nn.testBit i = true) (hr : cnt i nn < ks.length) (hn : ks.length ≤ 900) :
    Calls Try.prog 59 #[.pointer (some ⟨b, 2, none⟩), .int .i64 i] w (SlotPost base b o bk d (wo nn (onl (i : Int))) xs (ks.eraseIdx (cnt i nn)) pv kv w) := by
  obtain ⟨c0, c1, c2, c3, c4, c5⟩ := h.cells
  have f := h.blk.frozen
  obtain ⟨r, hrr⟩ : ∃ r, r = cnt i nn := ⟨_, rfl⟩
  have F1 : IntKind.i64.wrap ((r : Int) + 1) = ((r + 1 : Nat) : Int) := by rw [IntWalk.i64_in _ (by omega)]; omega
  have HB := Lib.hid hb
  clear hb
  go_enter Try.func59, Try.ntmps59
  go_wp2_with fail
  refine (has_nat _ _ _ hd hi true HB.out).mono ?_
  rintro e w' ⟨rfl, rfl⟩
  go_wp2_with fail
  refine (rank_nat _ _ _ hd).mono ?_
  rintro e w' ⟨rfl, k, rfl⟩
  rw [← hrr] at hr ⊢
  have HR := Lib.hid hrr
  clear hrr
  have h1 := h.drewN k
  have hm := (Moves.refl b pv kv w).drewN k
  have hk0 := (Keep.refl [] w).drewN k
  clear c0 c1 c2 c3 c4 c5 f
  generalize w.drewN k = W at *
  obtain ⟨c0, c1, c2, c3, c4, c5⟩ := h1.cells
  have f := h1.blk.frozen
  go_wp2_with fail
  refine (del_kids base r (r + 1) ks.length kv _ W h1.kds hr (Lib.hid rfl) (by omega) (kcs_one ks)).mono ?_
  rintro e w1 ⟨g, cap, hv, rfl, hO, hK0⟩
  have hK : Keep kv.ownBlock.toList W w1 := by rw [hv]; exact hK0
  rw [kcs_del] at hO
  have hO2 : OwnK base w1 (.slice (some ⟨g, 0, none⟩) (ks.length - 1) cap) (ks.eraseIdx r) := by
    unfold OwnK
    rw [List.length_eraseIdx_of_lt hr]
    exact hO
  have h2 := h1.setK (w' := w1) hK hO2
  have hm2 : Moves b pv kv pv (.slice (some ⟨g, 0, none⟩) (ks.length - 1) cap) w (w1.setCell ⟨b, 5, none⟩ (.slice (some ⟨g, 0, none⟩) (ks.length - 1) cap)) := by
    refine (hm.trans ⟨.refl _ _, (fun x hx => .inl (by rw [hv]; exact hx)), hK.sub (by intro x hx; simp only [foot, List.mem_cons, List.mem_append]; exact .inr (.inr hx))⟩).setCell _ _
  have hb1 : Blk w1 b 98 #[o, .bool bk, .int .u32 d, .int .u32 nn, pv, kv] := h1.blk.keep hK (fun hx => by have := h1.kne; simp at hx; exact this hx)
  have g2 := hb1.cell 2
  have g3 := hb1.cell 3
  have g4 := hb1.cell 5
  have q4 := hb1.frozen 5
  simp only [List.getElem?_toArray, List.getElem?_cons_succ, List.getElem?_cons_zero] at g2 g3 g4
  clear c0 c1 c2 c3 c4 c5 f hb1 hK hK0 hO hO2 h1 hm h hv
  go_wp2_with fail
  clear g2 g3 g4 q4
  generalize w1.setCell ⟨b, 5, none⟩ (.slice (some ⟨g, 0, none⟩) (ks.length - 1) cap) = W2 at *
  refine (without_any _ _ _ hd).mono ?_
  rintro e w' ⟨rfl, rfl⟩
  have g5 := h2.blk.cell 3
  have q5 := h2.blk.frozen 3
  simp only [List.getElem?_toArray, List.getElem?_cons_succ, List.getElem?_cons_zero] at g5
  have h3 := h2.setN (wo nn (onl (i : Int)))
  have hm3 := hm2.setCell 3 (.int .u32 (wo nn (onl (i : Int))))
  clear h2 hm2
  go_wp2_with fail
  go_end0
  rw [← HR.out]
  exact ⟨rfl, _, _, h3, hm3⟩
set_option maxRecDepth 100000 in
set_option maxHeartbeats 4000000 in
theorem clearKid_no (base b i : Nat) (o : Value) (bk : Bool) (d nn : Nat) (pv kv : Value) (xs : List Pr) (ks : List Nat) (w : World) (h : NdV base w b o bk d nn pv kv xs ks) (hd : nn < 4294967296) (hi : i < 32) (hb : nn.testBit i = false) :
    Calls Try.prog 59 #[.pointer (some ⟨b, 2, none⟩), .int .i64 i] w (SlotPost base b o bk d nn xs ks pv kv w) := by
  obtain ⟨c0, c1, c2, c3, c4, c5⟩ := h.cells
  have HB := Lib.hid hb
  clear hb
  go_enter Try.func59, Try.ntmps59
  go_wp2_with fail
  refine (has_nat _ _ _ hd hi false HB.out).mono ?_
  rintro e w' ⟨rfl, rfl⟩
  go_wp2_with fail
  go_end0
  exact ⟨rfl, _, _, h, Moves.refl _ _ _ _⟩
theorem clearKid_any (base b i : Nat) (o : Value) (bk : Bool) (d nn : Nat) (pv kv : Value) (xs : List Pr) (ks : List Nat) (w : World) (h : NdV base w b o bk d nn pv kv xs ks) (hd : nn < 4294967296) (hi : i < 32) (hr : nn.testBit i = true → cnt i nn < ks.length) (hn : ks.length ≤ 900) :
    Calls Try.prog 59 #[.pointer (some ⟨b, 2, none⟩), .int .i64 i] w (SlotPost base b o bk d (clrB nn i) xs (clrL nn i ks) pv kv w) := by
  unfold clrB clrL
  cases hb : nn.testBit i with
  | true => rw [if_pos rfl, if_pos rfl]; exact clearKid_yes base b i o bk d nn pv kv xs ks w h hd hi hb (hr hb) hn
  | false => rw [if_neg (by decide), if_neg (by decide)]; exact clearKid_no base b i o bk d nn pv kv xs ks w h hd hi hb
end Go.Proofs.Ytgldgdpgbfejmaa
