/- The reference's pool in memory: what holds of it, and what keeps it. -/
import Derived.Test.YtfipifjlmepooaaTs
import Derived.OneCell
namespace Go.Proofs.Ytfipifjlmepooaa
open Go.RowKit Go.Conc
set_option linter.unusedVariables false
set_option linter.unusedSimpArgs false
theorem info3 : (Try.prog.info? 3).map (fun i => (i.zero, i.size, i.bytes)) = some (some (.int .i64 0), 1, 8) := by kernel_rfl
theorem info4 : (Try.prog.info? 4).map (fun i => (i.zero, i.size, i.bytes)) = some (some (.bool false), 1, 1) := by kernel_rfl
def nums (q : List Nat) : List Value := q.map fun n : Nat => Value.int .i64 n
def bools (l : List Bool) : List Value := l.map Value.bool
theorem nums_len (q : List Nat) : (nums q).length = q.length := by simp [nums]
theorem nums_snoc (q : List Nat) (i : Nat) : nums (q ++ [i]) = nums q ++ [.int .i64 i] := by simp [nums]
theorem bools_snoc (q : List Bool) (i : Bool) : bools (q ++ [i]) = bools q ++ [.bool i] := by simp [bools]
theorem nums_one (q : List Nat) : ∀ u ∈ nums q, u.oneCell' = true := by simp [nums, Value.oneCell']
theorem nums_get (q : List Nat) (j : Nat) (n : Nat) (h : q[j]? = some n) : (nums q)[j]? = some (.int .i64 n) := by simp [nums, h]
theorem bools_get (q : List Bool) (j : Nat) (n : Bool) (h : q[j]? = some n) : (bools q)[j]? = some (.bool n) := by simp [bools, h]
structure RefP (base : Nat) (w : World) (x N : Nat) (vr vl vi : Value) (q : List Nat) (lv : List Bool) (is : List Nat) : Prop where
  blk : Blk w x 66 #[.int .i64 N, vr, vl, vi]
  ge : base ≤ x
  row : w.ownsRow base 3 1 vr q.length (nums q)
  live : w.ownsRow base 4 1 vl lv.length (bools lv)
  ids : w.ownsRow base 3 1 vi is.length (nums is)
  apart : ∀ g, vr.ownBlock = some g → vi.ownBlock ≠ some g
/-- a block that is none of the reference's -/
def other (w : World) (b : Nat) : Prop := ∀ cur fr, w.heap[b]? ≠ some (.cells cur 66 fr) ∧ w.heap[b]? ≠ some (.cells cur 3 fr) ∧ w.heap[b]? ≠ some (.cells cur 4 fr)
/-- what a call of the reference leaves alone -/
structure KeepR (base : Nat) (w w' : World) : Prop where
  below : Below base w w'
  block : ∀ b, b < w.heap.size → other w b → w'.heap[b]? = w.heap[b]?
theorem KeepR.refl (base : Nat) (w : World) : KeepR base w w := ⟨Below.refl _ _, fun _ _ _ => rfl⟩
theorem KeepR.trans {base : Nat} {a b c : World} (h : KeepR base a b) (k : KeepR base b c) : KeepR base a c :=
  ⟨h.below.trans k.below, fun i hi ho => by
    have e := h.block i hi ho
    exact (k.block i (Nat.lt_of_lt_of_le hi h.below.size) (fun cur fr => by rw [e]; exact ho cur fr)).trans e⟩
theorem KeepR.of_below {base : Nat} {a b : World} (h : Below a.heap.size a b) (hb : base ≤ a.heap.size) : KeepR base a b := ⟨h.mono hb, fun i hi _ => h.block i hi⟩
theorem KeepR.alloc {base : Nat} {a w : World} (h : KeepR base a w) (hb : base ≤ a.heap.size) (o : Obj) : KeepR base a (w.alloc o) :=
  h.trans (.of_below ((Below.refl _ _).alloc (Nat.le_refl _) o) (Nat.le_trans hb h.below.size))
theorem KeepR.setCell {base : Nat} {a w : World} (h : KeepR base a w) {p : Addr} (hp : base ≤ p.block) {t : TypeId} {cur : Array Value} {fr : Nat × Nat} (hc : w.heap[p.block]? = some (.cells cur t fr)) (ht : t = 66 ∨ t = 3 ∨ t = 4) (u : Value) : KeepR base a (w.setCell p u) :=
  h.trans ⟨(Below.refl _ _).setCell hp u, fun i hi ho => Below.heap_setCell w p u i (fun e => by
    subst e
    have := ho cur fr
    rcases ht with rfl | rfl | rfl
    · exact this.1 hc
    · exact this.2.1 hc
    · exact this.2.2 hc)⟩
theorem KeepR.grown {base : Nat} {a w w' : World} (h : KeepR base a w) {e : TypeId} {n : Nat} {v : Value} {xs : List Value} (hr : w.ownsRow base e 1 v n xs) (he : e = 3 ∨ e = 4) (hb : base ≤ w.heap.size) (hg : w.grownBy w' v.ownBlock) : KeepR base a w' :=
  h.trans ⟨(Below.refl base w).grown hg hb (own_ge hr), fun i hi ho => hg.block i hi (fun e' => by
    obtain ⟨cur, hc⟩ := own_cells hr i e'.symm
    have := ho cur (0, 0)
    rcases he with rfl | rfl
    · exact this.2.1 hc
    · exact this.2.2 hc)⟩
theorem KeepR.drew {base : Nat} {a w : World} (h : KeepR base a w) : KeepR base a w.drew := ⟨h.below.drew, h.block⟩
theorem Pool.other {w : World} {p c k : Nat} {out : Int} {q : List Nat} (h : Pool w p c k out q) : other w p ∧ other w c := by
  obtain ⟨hb, s, r, hc⟩ := h
  unfold Blk at hb
  constructor
  · intro cur fr; rw [hb]; refine ⟨?_, ?_, ?_⟩ <;> (intro h; cases h)
  · intro cur fr; rw [hc]; refine ⟨?_, ?_, ?_⟩ <;> (intro h; cases h)
theorem Tok.other {w : World} {t p i : Nat} {l : Bool} (h : Tok w t p i l) : other w t := by
  intro cur fr
  unfold Tok Blk at h
  rw [h]; refine ⟨?_, ?_, ?_⟩ <;> (intro h; cases h)
theorem Pool.keepR {base : Nat} {w w' : World} {p c k : Nat} {out : Int} {q : List Nat} (h : Pool w p c k out q) (hk : KeepR base w w') : Pool w' p c k out q := by
  have hl := h.lt
  have ho := h.other
  obtain ⟨hb, s, r, hch⟩ := h
  exact ⟨(hk.block p hl.1 ho.1).trans hb, s, r, (hk.block c hl.2.1 ho.2).trans hch⟩
theorem Tok.keepR {base : Nat} {w w' : World} {t p i : Nat} {l : Bool} (h : Tok w t p i l) (hk : KeepR base w w') : Tok w' t p i l := (hk.block t h.lt h.other).trans h
theorem Toks.keepR {base b : Nat} {w w' : World} {p : Nat} {v : Value} {L : TL} (h : Toks base w p v L) (hk : KeepR b w w') : Toks base w' p v L := by
  refine ⟨⟨h.row.1, ?_⟩, fun x hx => ⟨(h.tok x hx).1.keepR hk, (h.tok x hx).2⟩, h.nd⟩
  rcases h.row.2 with h1 | ⟨g, cap, cur, hv, hg, hh, h3⟩
  · exact .inl h1
  · refine .inr ⟨g, cap, cur, hv, hg, ?_, h3⟩
    have hlt : g < w.heap.size := by
      rcases Nat.lt_or_ge g w.heap.size with hlt | hge
      · exact hlt
      · rw [Array.getElem?_eq_none hge] at hh; cases hh
    refine (hk.block g hlt ?_).trans hh
    intro cur fr; rw [hh]; refine ⟨?_, ?_, ?_⟩ <;> (intro h; cases h)
theorem RefP.keep {base : Nat} {w w' : World} {x N : Nat} {vr vl vi : Value} {q : List Nat} {lv : List Bool} {is : List Nat} (h : RefP base w x N vr vl vi q lv is) {X : List Nat} (hk : Keep X w w') (hX : ∀ b ∈ X, other w b) : RefP base w' x N vr vl vi q lv is := by
  have hb := h.blk
  refine ⟨hb.keep hk (fun hm => ?_), h.ge, own_keep h.row hk (fun b hb => own_ne h.row (fun cur => (hX b hb cur (0, 0)).2.1)), own_keep h.live hk (fun b hb => own_ne h.live (fun cur => (hX b hb cur (0, 0)).2.2)), own_keep h.ids hk (fun b hb => own_ne h.ids (fun cur => (hX b hb cur (0, 0)).2.1)), h.apart⟩
  unfold Blk at hb
  exact (hX x hm _ _).1 hb
theorem RefP.ne {base : Nat} {w : World} {x N : Nat} {vr vl vi : Value} {q : List Nat} {lv : List Bool} {is : List Nat} (h : RefP base w x N vr vl vi q lv is) : vr.ownBlock ≠ some x ∧ vl.ownBlock ≠ some x ∧ vi.ownBlock ≠ some x := by
  have hb := h.blk
  unfold Blk at hb
  refine ⟨own_ne h.row ?_, own_ne h.live ?_, own_ne h.ids ?_⟩ <;> (intro cur e; rw [hb] at e; cases e)
/-- rows of unlike elements are apart -/
theorem own_apart {w : World} {b1 b2 n1 n2 : Nat} {e1 e2 : TypeId} {v1 v2 : Value} {x1 x2 : List Value} (h1 : w.ownsRow b1 e1 1 v1 n1 x1) (h2 : w.ownsRow b2 e2 1 v2 n2 x2) (hne : e1 ≠ e2) : ∀ g, v1.ownBlock = some g → v2.ownBlock ≠ some g := by
  intro g hg hg2
  obtain ⟨c1, hc1⟩ := own_cells h1 g hg
  obtain ⟨c2, hc2⟩ := own_cells h2 g hg2
  rw [hc1] at hc2
  cases hc2
  exact hne rfl
theorem own_lt {w : World} {base : Nat} {e : TypeId} {n : Nat} {v : Value} {xs : List Value} (h : w.ownsRow base e 1 v n xs) : ∀ k, v.ownBlock = some k → k < w.heap.size := fun k hk => (h.lt k hk).2
theorem RefP.cells {base : Nat} {w : World} {x N : Nat} {vr vl vi : Value} {q : List Nat} {lv : List Bool} {is : List Nat} (h : RefP base w x N vr vl vi q lv is) :
    (w.cell? ⟨x, 1, none⟩ = some vr ∧ w.cell? ⟨x, 2, none⟩ = some vl ∧ w.cell? ⟨x, 3, none⟩ = some vi) ∧ (w.frozen? ⟨x, 1, none⟩ = false ∧ w.frozen? ⟨x, 2, none⟩ = false ∧ w.frozen? ⟨x, 3, none⟩ = false) :=
  ⟨⟨h.blk.cell 1, h.blk.cell 2, h.blk.cell 3⟩, h.blk.frozen 1, h.blk.frozen 2, h.blk.frozen 3⟩
/-- a value of n elements, written out -/
theorem own_form {w : World} {base : Nat} {e : TypeId} {n : Nat} {v : Value} {xs : List Value} (h : w.ownsRow base e 1 v n xs) : ∃ A c, v = .slice A n c ∧ n ≤ c := by
  rcases h.2 with ⟨rfl, rfl⟩ | ⟨g, cap, cur, rfl, _, _, hc, _⟩
  · exact ⟨_, _, rfl, Nat.le_refl _⟩
  · exact ⟨_, _, rfl, hc⟩
theorem own_drew {w : World} {base : Nat} {e : TypeId} {n : Nat} {v : Value} {xs : List Value} (h : w.ownsRow base e 1 v n xs) : w.drew.ownsRow base e 1 v n xs := h
theorem RefP.alloc {base : Nat} {w : World} {x N : Nat} {vr vl vi : Value} {q : List Nat} {lv : List Bool} {is : List Nat} (h : RefP base w x N vr vl vi q lv is) (o : Obj) : RefP base (w.alloc o) x N vr vl vi q lv is :=
  ⟨h.blk.alloc o, h.ge, h.row.alloc o, h.live.alloc o, h.ids.alloc o, h.apart⟩
/-- another row takes the place of the first one -/
theorem RefP.setRow {base : Nat} {w w' : World} {x N : Nat} {vr vl vi vr' : Value} {q q' : List Nat} {lv : List Bool} {is : List Nat} (h : RefP base w x N vr vl vi q lv is)
    (hg : w.grownBy w' vr.ownBlock) (hr : w'.ownsRow base 3 1 vr' q'.length (nums q')) (hat : vr'.ownBlock = vr.ownBlock ∨ ∀ g, vr'.ownBlock = some g → w.heap.size ≤ g) : RefP base (w'.setCell ⟨x, 1, none⟩ vr') x N vr' vl vi q' lv is := by
  have hx := h.blk.lt
  have hne := h.ne
  have hb : Blk w' x 66 #[.int .i64 N, vr, vl, vi] := (hg.block x hx (Ne.symm hne.1)).trans h.blk
  have hl : w'.ownsRow base 4 1 vl lv.length (bools lv) := h.live.kept hg (by
    rcases hv : vl.ownBlock with _ | g
    · exact .inl rfl
    · exact .inr fun e => own_apart h.live h.row (by decide) g hv e.symm)
  have hi : w'.ownsRow base 3 1 vi is.length (nums is) := h.ids.kept hg (by
    rcases hv : vi.ownBlock with _ | g
    · exact .inl rfl
    · exact .inr fun e => h.apart g e.symm hv)
  have hrx : vr'.ownBlock ≠ some x := own_ne hr (fun cur e => by unfold Blk at hb; rw [hb] at e; cases e)
  refine ⟨hb.set_ 1 vr', h.ge, ownsRow_setCell_other hr hrx _, ownsRow_setCell_other hl hne.2.1 _, ownsRow_setCell_other hi hne.2.2 _, ?_⟩
  intro g hg1 hg2
  rcases hat with e | e
  · rw [e] at hg1; exact h.apart g hg1 hg2
  · have := e g hg1
    have := own_lt h.ids g hg2
    omega
end Go.Proofs.Ytfipifjlmepooaa
