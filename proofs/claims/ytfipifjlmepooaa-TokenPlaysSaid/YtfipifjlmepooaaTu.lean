/- The reference's pool between two stores: its cells, and the rows that there are. -/
import Derived.Test.YtfipifjlmepooaaTt
namespace Go.Proofs.Ytfipifjlmepooaa
open Go.RowKit Go.Conc
set_option linter.unusedVariables false
set_option linter.unusedSimpArgs false
structure RefG (base : Nat) (w : World) (x N : Nat) (c1 c2 c3 vr vl vi : Value) (q : List Nat) (lv : List Bool) (is : List Nat) : Prop where
  blk : Blk w x 66 #[.int .i64 N, c1, c2, c3]
  ge : base ≤ x
  row : w.ownsRow base 3 1 vr q.length (nums q)
  live : w.ownsRow base 4 1 vl lv.length (bools lv)
  ids : w.ownsRow base 3 1 vi is.length (nums is)
  apart : ∀ g, vr.ownBlock = some g → vi.ownBlock ≠ some g
section
variable {base : Nat} {w : World} {x N : Nat} {c1 c2 c3 vr vl vi : Value} {q : List Nat} {lv : List Bool} {is : List Nat}
theorem RefP.g (h : RefP base w x N vr vl vi q lv is) : RefG base w x N vr vl vi vr vl vi q lv is := ⟨h.blk, h.ge, h.row, h.live, h.ids, h.apart⟩
theorem RefG.p (h : RefG base w x N vr vl vi vr vl vi q lv is) : RefP base w x N vr vl vi q lv is := ⟨h.blk, h.ge, h.row, h.live, h.ids, h.apart⟩
theorem RefG.drew (h : RefG base w x N c1 c2 c3 vr vl vi q lv is) : RefG base w.drew x N c1 c2 c3 vr vl vi q lv is := ⟨h.blk, h.ge, h.row, h.live, h.ids, h.apart⟩
theorem RefG.alloc (h : RefG base w x N c1 c2 c3 vr vl vi q lv is) (o : Obj) : RefG base (w.alloc o) x N c1 c2 c3 vr vl vi q lv is :=
  ⟨h.blk.alloc o, h.ge, h.row.alloc o, h.live.alloc o, h.ids.alloc o, h.apart⟩
theorem RefG.ne (h : RefG base w x N c1 c2 c3 vr vl vi q lv is) : vr.ownBlock ≠ some x ∧ vl.ownBlock ≠ some x ∧ vi.ownBlock ≠ some x := by
  have hb := h.blk
  unfold Blk at hb
  refine ⟨own_ne h.row ?_, own_ne h.live ?_, own_ne h.ids ?_⟩ <;> (intro cur e; rw [hb] at e; cases e)
theorem RefG.base_le (h : RefG base w x N c1 c2 c3 vr vl vi q lv is) : base ≤ w.heap.size := by have := h.blk.lt; have := h.ge; omega
theorem RefG.cells (h : RefG base w x N c1 c2 c3 vr vl vi q lv is) :
    (w.cell? ⟨x, 1, none⟩ = some c1 ∧ w.cell? ⟨x, 2, none⟩ = some c2 ∧ w.cell? ⟨x, 3, none⟩ = some c3) ∧ (w.frozen? ⟨x, 1, none⟩ = false ∧ w.frozen? ⟨x, 2, none⟩ = false ∧ w.frozen? ⟨x, 3, none⟩ = false) :=
  ⟨⟨h.blk.cell 1, h.blk.cell 2, h.blk.cell 3⟩, h.blk.frozen 1, h.blk.frozen 2, h.blk.frozen 3⟩
theorem RefG.grownIds {w' : World} {vi' : Value} {is' : List Nat} (h : RefG base w x N c1 c2 c3 vr vl vi q lv is) (hg : w.grownBy w' vi.ownBlock) (hr : w'.ownsRow base 3 1 vi' is'.length (nums is'))
    (hat : ∀ g, vi'.ownBlock = some g → vi.ownBlock = some g ∨ w.heap.size ≤ g) : RefG base w' x N c1 c2 c3 vr vl vi' q lv is' := by
  have hne := h.ne
  refine ⟨(hg.block x h.blk.lt (Ne.symm hne.2.2)).trans h.blk, h.ge, h.row.kept hg ?_, h.live.kept hg ?_, hr, ?_⟩
  · rcases hv : vr.ownBlock with _ | g
    · exact .inl rfl
    · exact .inr fun e => h.apart g hv e.symm
  · rcases hv : vl.ownBlock with _ | g
    · exact .inl rfl
    · exact .inr fun e => own_apart h.live h.ids (by decide) g hv e.symm
  · intro g hg1 hg2
    rcases hat g hg2 with e | e
    · exact h.apart g hg1 e
    · have := own_lt h.row g hg1; omega
theorem RefG.grownLive {w' : World} {vl' : Value} {lv' : List Bool} (h : RefG base w x N c1 c2 c3 vr vl vi q lv is) (hg : w.grownBy w' vl.ownBlock) (hr : w'.ownsRow base 4 1 vl' lv'.length (bools lv')) : RefG base w' x N c1 c2 c3 vr vl' vi q lv' is := by
  have hne := h.ne
  refine ⟨(hg.block x h.blk.lt (Ne.symm hne.2.1)).trans h.blk, h.ge, h.row.kept hg ?_, hr, h.ids.kept hg ?_, h.apart⟩
  · rcases hv : vr.ownBlock with _ | g
    · exact .inl rfl
    · exact .inr fun e => own_apart h.row h.live (by decide) g hv e.symm
  · rcases hv : vi.ownBlock with _ | g
    · exact .inl rfl
    · exact .inr fun e => own_apart h.ids h.live (by decide) g hv e.symm
/-- the row goes on in its place, or anew -/
theorem RefG.grownRow {w' : World} {vr' : Value} {q' : List Nat} (h : RefG base w x N c1 c2 c3 vr vl vi q lv is) (hg : w.grownBy w' vr.ownBlock) (hr : w'.ownsRow base 3 1 vr' q'.length (nums q'))
    (hat : ∀ g, vr'.ownBlock = some g → vr.ownBlock = some g ∨ w.heap.size ≤ g) : RefG base w' x N c1 c2 c3 vr' vl vi q' lv is := by
  have hne := h.ne
  refine ⟨(hg.block x h.blk.lt (Ne.symm hne.1)).trans h.blk, h.ge, hr, h.live.kept hg ?_, h.ids.kept hg ?_, ?_⟩
  · rcases hv : vl.ownBlock with _ | g
    · exact .inl rfl
    · exact .inr fun e => own_apart h.live h.row (by decide) g hv e.symm
  · rcases hv : vi.ownBlock with _ | g
    · exact .inl rfl
    · exact .inr fun e => h.apart g e.symm hv
  · intro g hg1 hg2
    rcases hat g hg1 with e | e
    · exact h.apart g e hg2
    · have := own_lt h.ids g hg2; omega
/-- a row that was made apart from all takes its place -/
theorem RefG.newRow {w' : World} {b : Nat} {vr' : Value} {q' : List Nat} (h : RefG base w x N c1 c2 c3 vr vl vi q lv is) (hb : w.heap.size ≤ b) {o : Obj} (hg : (w.alloc o).grownBy w' (some b)) (hr : w'.ownsRow base 3 1 vr' q'.length (nums q'))
    (hat : ∀ g, vr'.ownBlock = some g → w.heap.size ≤ g) : RefG base w' x N c1 c2 c3 vr' vl vi q' lv is := by
  have h2 := h.alloc o
  have hx := h.blk.lt
  refine ⟨(hg.block x h2.blk.lt (fun e => by cases e; omega)).trans h2.blk, h.ge, hr, h2.live.kept hg ?_, h2.ids.kept hg ?_, ?_⟩
  · rcases hv : vl.ownBlock with _ | g
    · exact .inl rfl
    · exact .inr fun e => by have h1 := own_lt h.live g hv; have h2 : g = b := Option.some.inj e; omega
  · rcases hv : vi.ownBlock with _ | g
    · exact .inl rfl
    · exact .inr fun e => by have h1 := own_lt h.ids g hv; have h2 : g = b := Option.some.inj e; omega
  · intro g hg1 hg2
    have := hat g hg1
    have := own_lt h.ids g hg2
    omega
theorem RefG.set1 (h : RefG base w x N c1 c2 c3 vr vl vi q lv is) (u : Value) : RefG base (w.setCell ⟨x, 1, none⟩ u) x N u c2 c3 vr vl vi q lv is :=
  ⟨h.blk.set_ 1 u, h.ge, ownsRow_setCell_other h.row h.ne.1 _, ownsRow_setCell_other h.live h.ne.2.1 _, ownsRow_setCell_other h.ids h.ne.2.2 _, h.apart⟩
theorem RefG.set2 (h : RefG base w x N c1 c2 c3 vr vl vi q lv is) (u : Value) : RefG base (w.setCell ⟨x, 2, none⟩ u) x N c1 u c3 vr vl vi q lv is :=
  ⟨h.blk.set_ 2 u, h.ge, ownsRow_setCell_other h.row h.ne.1 _, ownsRow_setCell_other h.live h.ne.2.1 _, ownsRow_setCell_other h.ids h.ne.2.2 _, h.apart⟩
theorem RefG.set3 (h : RefG base w x N c1 c2 c3 vr vl vi q lv is) (u : Value) : RefG base (w.setCell ⟨x, 3, none⟩ u) x N c1 c2 u vr vl vi q lv is :=
  ⟨h.blk.set_ 3 u, h.ge, ownsRow_setCell_other h.row h.ne.1 _, ownsRow_setCell_other h.live h.ne.2.1 _, ownsRow_setCell_other h.ids h.ne.2.2 _, h.apart⟩
theorem RefG.keepSet {a : World} (h : RefG base w x N c1 c2 c3 vr vl vi q lv is) (hk : KeepR base a w) (i : Nat) (u : Value) : KeepR base a (w.setCell ⟨x, i, none⟩ u) :=
  hk.setCell (p := ⟨x, i, none⟩) h.ge h.blk (.inl rfl) u
/-- what the loads of Take read -/
theorem RefG.S {gr n cr i : Nat} {q' : List Nat} (h : RefG base w x N (.slice (some ⟨gr, 0, none⟩) n cr) c2 c3 (.slice (some ⟨gr, 0, none⟩) n cr) vl vi (i :: q') lv is) (hn : n = (i :: q').length) :
    w.cell? ⟨x, 1, none⟩ = some (.slice (some ⟨gr, 0, none⟩) n cr) ∧ w.cell? ⟨x, 2, none⟩ = some c2 ∧ w.cell? ⟨x, 3, none⟩ = some c3 ∧ w.cell? ⟨gr, 0, none⟩ = some (.int .i64 i) := by
  obtain ⟨⟨h1, h2, h3⟩, -⟩ := h.cells
  refine ⟨h1, h2, h3, ?_⟩
  have hr := h.row
  rw [← hn] at hr
  rw [hr.cellAt 0 (by rw [hn]; simp)]
  simp [nums]
end
end Go.Proofs.Ytfipifjlmepooaa
