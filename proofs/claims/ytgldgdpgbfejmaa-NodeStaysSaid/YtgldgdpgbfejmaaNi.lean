/- A copy of a node's slots; the node that a change is made to. -/
import Derived.Test.YtgldgdpgbfejmaaNh
import Derived.BigQuiet
import Derived.Deep.QuietTactic
import Derived.Deep.RegionHeld3
namespace Go.Proofs.Ytgldgdpgbfejmaa
open Go.RowKit Go.Lib
set_option linter.unusedVariables false
set_option linter.unusedSimpArgs false
attribute [local irreducible] cnt
theorem keep4 {w w' : World} {b : Nat} {v2 v3 v4 v5 : Value} (h : w.cell? ⟨b, 2, none⟩ = some v2 ∧ w.cell? ⟨b, 3, none⟩ = some v3 ∧ w.cell? ⟨b, 4, none⟩ = some v4 ∧ w.cell? ⟨b, 5, none⟩ = some v5) (hb : Below w.heap.size w w') :
    w'.cell? ⟨b, 2, none⟩ = some v2 ∧ w'.cell? ⟨b, 3, none⟩ = some v3 ∧ w'.cell? ⟨b, 4, none⟩ = some v4 ∧ w'.cell? ⟨b, 5, none⟩ = some v5 := by
  have hl : b < w.heap.size := World.block_lt_of_cell? w _ h.1
  exact ⟨(hb.cell hl).trans h.1, (hb.cell hl).trans h.2.1, (hb.cell hl).trans h.2.2.1, (hb.cell hl).trans h.2.2.2⟩
theorem Own.below {base : Nat} {w w' : World} {v : Value} {xs : List Pr} (h : Own base w v xs) (hb : Below w.heap.size w w') : Own base w' v xs := own_keep h (Keep.of_below (X := []) hb) (by simp)
theorem OwnK.below {base : Nat} {w w' : World} {v : Value} {xs : List Nat} (h : OwnK base w v xs) (hb : Below w.heap.size w w') : OwnK base w' v xs := own_keep h (Keep.of_below (X := []) hb) (by simp)
theorem Blk.below {w w' : World} {g : Nat} {t : TypeId} {cs : Array Value} (h : Blk w g t cs) (hb : Below w.heap.size w w') : Blk w' g t cs := h.keep (Keep.of_below (X := []) hb) (by simp)
theorem Own.form {base : Nat} {w : World} {v : Value} {xs : List Pr} (h : Own base w v xs) : ∃ A n c, v = .slice A n c := by
  rcases h.2 with ⟨e, _⟩ | ⟨g, cap, cur, e, _⟩
  · exact ⟨_, _, _, e⟩
  · exact ⟨_, _, _, e⟩
theorem OwnK.form {base : Nat} {w : World} {v : Value} {xs : List Nat} (h : OwnK base w v xs) : ∃ A n c, v = .slice A n c := by
  rcases h.2 with ⟨e, _⟩ | ⟨g, cap, cur, e, _⟩
  · exact ⟨_, _, _, e⟩
  · exact ⟨_, _, _, e⟩
theorem four {w : World} {g : Nat} {t : TypeId} {a b c d : Value} (h : Blk w g t #[a, b, c, d]) :
    (w.cell? ⟨g, 0, none⟩ = some a ∧ w.cell? ⟨g, 1, none⟩ = some b ∧ w.cell? ⟨g, 2, none⟩ = some c ∧ w.cell? ⟨g, 3, none⟩ = some d) ∧
    (w.frozen? ⟨g, 0, none⟩ = false ∧ w.frozen? ⟨g, 1, none⟩ = false ∧ w.frozen? ⟨g, 2, none⟩ = false ∧ w.frozen? ⟨g, 3, none⟩ = false) :=
  ⟨⟨h.cell 0, h.cell 1, h.cell 2, h.cell 3⟩, h.frozen 0, h.frozen 1, h.frozen 2, h.frozen 3⟩
def CopyPost (d nn : Nat) (xs : List Pr) (ks : List Nat) (w : World) (e : Ending) (w' : World) : Prop :=
  ∃ pv' kv', e = .returned (.agg #[.int .u32 d, .int .u32 nn, pv', kv']) ∧ Own w.heap.size w' pv' xs ∧ OwnK w.heap.size w' kv' ks ∧ Below w.heap.size w w'
set_option maxRecDepth 100000 in
set_option maxHeartbeats 8000000 in
theorem copied_any (base b : Nat) (o : Value) (bk : Bool) (d nn : Nat) (pv kv : Value) (xs : List Pr) (ks : List Nat) (w : World) (h : NdV base w b o bk d nn pv kv xs ks) (hn1 : xs.length ≤ 800) (hn2 : ks.length ≤ 800) :
    Calls Try.prog 72 #[.pointer (some ⟨b, 2, none⟩)] w (CopyPost d nn xs ks w) := by
  have hlt := h.blk.lt
  have hbx : Blk (w.alloc (.cells #[.int .u32 0, .int .u32 0, .slice none 0 0, .slice none 0 0] 96)).drew w.heap.size 96 #[.int .u32 0, .int .u32 0, .slice none 0 0, .slice none 0 0] := Blk.new w 96 _
  have hN0 := h.below ((Below.refl _ w).alloc (Nat.le_refl _) (.cells #[.int .u32 0, .int .u32 0, .slice none 0 0, .slice none 0 0] 96))
  have hBe : Below w.heap.size w (w.alloc (.cells #[.int .u32 0, .int .u32 0, .slice none 0 0, .slice none 0 0] 96)).drew := ((Below.refl _ w).alloc (Nat.le_refl _) _).drew
  go_enter Try.func72, Try.ntmps72
  go_wp2_with fail
  generalize hW0 : w.alloc (.cells #[.int .u32 0, .int .u32 0, .slice none 0 0, .slice none 0 0] 96) = W0 at *
  clear hW0
  obtain ⟨N, hN⟩ : ∃ N, N = w.heap.size := ⟨_, rfl⟩
  rw [← hN] at hbx hBe hlt ⊢
  obtain ⟨c0, c1, c2, c3, c4, c5⟩ := hN0.cells
  have hne : ¬ (b = N) := by omega
  have hne' : ¬ (N = b) := by omega
  have hP : Own base W0.drew pv xs := hN0.prs
  have hKd : OwnK base W0.drew kv ks := hN0.kds
  have HN := Lib.hid hN
  have hs1 : Hid (W0.drew.heap.size ≤ W0.drew.heap.size) := Lib.hid (Nat.le_refl _)
  clear hN h hN0 c0 c1
  go_region_held3 (fun w' : World => w'.cell? ⟨b, 2, none⟩ = some (.int .u32 d) ∧ w'.cell? ⟨b, 3, none⟩ = some (.int .u32 nn) ∧ w'.cell? ⟨b, 4, none⟩ = some pv ∧ w'.cell? ⟨b, 5, none⟩ = some kv) (first | exact ⟨c2, c3, c4, c5⟩ | exact keep4 (by assumption) hB | go_keep) (first
    | (have _g := hO1; clear _g; go_at_call 53; refine (clone_kids base kv ks _ hKd (by omega)).mono ?_; rintro e w2 ⟨v2, rfl, hO2, hB⟩; replace hO2 := hO2.base (b' := N) (Nat.le_trans (Nat.le_of_eq HN.out) hBe.size); replace hO1 := hO1.below hB; replace hbx := hbx.below hB; replace hBe := hBe.trans (hB.mono (Nat.le_trans (Nat.le_of_eq HN.out) hBe.size)); obtain ⟨A2, n2, q2, rfl⟩ := hO2.form; obtain ⟨⟨z0, z1, z2, z3⟩, y0, y1, y2, y3⟩ := four hbx)
    | (go_at_call 52; refine (clone_pairs base pv xs _ hP (by omega)).mono ?_; rintro e w1 ⟨v1, rfl, hO1, hB⟩; replace hO1 := hO1.base (b' := N) (Nat.le_trans (Nat.le_of_eq HN.out) hBe.size); replace hKd := hKd.below hB; replace hbx := hbx.below hB; replace hBe := hBe.trans (hB.mono (Nat.le_trans (Nat.le_of_eq HN.out) hBe.size)); obtain ⟨A1, n1, q1, rfl⟩ := hO1.form))
  have hb9 : Blk ((((w2.setCell ⟨N, 0, none⟩ (.int .u32 d)).setCell ⟨N, 1, none⟩ (.int .u32 nn)).setCell ⟨N, 2, none⟩ (.slice A1 n1 q1)).setCell ⟨N, 3, none⟩ (.slice A2 n2 q2)) N 96 #[.int .u32 d, .int .u32 nn, .slice A1 n1 q1, .slice A2 n2 q2] :=
    (((hbx.set_ 0 (.int .u32 d)).set_ 1 (.int .u32 nn)).set_ 2 (.slice A1 n1 q1)).set_ 3 (.slice A2 n2 q2)
  have e1 : (Value.slice A1 n1 q1).ownBlock ≠ some N := own_ne hO1 (fun cur e => by unfold Blk at hbx; rw [hbx] at e; cases e)
  have e2 : (Value.slice A2 n2 q2).ownBlock ≠ some N := own_ne hO2 (fun cur e => by unfold Blk at hbx; rw [hbx] at e; cases e)
  have hO19 : Own N ((((w2.setCell ⟨N, 0, none⟩ (.int .u32 d)).setCell ⟨N, 1, none⟩ (.int .u32 nn)).setCell ⟨N, 2, none⟩ (.slice A1 n1 q1)).setCell ⟨N, 3, none⟩ (.slice A2 n2 q2)) (.slice A1 n1 q1) xs :=
    ownsRow_setCell_other (ownsRow_setCell_other (ownsRow_setCell_other (ownsRow_setCell_other hO1 e1 _) e1 _) e1 _) e1 _
  have hO29 : OwnK N ((((w2.setCell ⟨N, 0, none⟩ (.int .u32 d)).setCell ⟨N, 1, none⟩ (.int .u32 nn)).setCell ⟨N, 2, none⟩ (.slice A1 n1 q1)).setCell ⟨N, 3, none⟩ (.slice A2 n2 q2)) (.slice A2 n2 q2) ks :=
    ownsRow_setCell_other (ownsRow_setCell_other (ownsRow_setCell_other (ownsRow_setCell_other hO2 e2 _) e2 _) e2 _) e2 _
  have hB9 : Below N w ((((w2.setCell ⟨N, 0, none⟩ (.int .u32 d)).setCell ⟨N, 1, none⟩ (.int .u32 nn)).setCell ⟨N, 2, none⟩ (.slice A1 n1 q1)).setCell ⟨N, 3, none⟩ (.slice A2 n2 q2)) :=
    (((hBe.setCell (p := ⟨N, 0, none⟩) (Nat.le_refl _) _).setCell (p := ⟨N, 1, none⟩) (Nat.le_refl _) _).setCell (p := ⟨N, 2, none⟩) (Nat.le_refl _) _).setCell (p := ⟨N, 3, none⟩) (Nat.le_refl _) _
  generalize (((w2.setCell ⟨N, 0, none⟩ (.int .u32 d)).setCell ⟨N, 1, none⟩ (.int .u32 nn)).setCell ⟨N, 2, none⟩ (.slice A1 n1 q1)).setCell ⟨N, 3, none⟩ (.slice A2 n2 q2) = W9 at *
  clear z0 z1 z2 z3 y0 y1 y2 y3 hbx hBe hO1 hO2 hB hKd hP c2 c3 c4 c5 e1 e2
  obtain ⟨⟨z0, z1, z2, z3⟩, -⟩ := four hb9
  go_wp2_with fail
  refine bodyPost_ret (v := .agg #[.int .u32 d, .int .u32 nn, .slice A1 n1 q1, .slice A2 n2 q2]) (by simp [results, Try.results72, go_sem, z0, z1, z2, z3]) rfl ?_
  rw [HN.out] at hO19 hO29 hB9
  exact ⟨_, _, rfl, hO19, hO29, hB9⟩
end Go.Proofs.Ytgldgdpgbfejmaa
