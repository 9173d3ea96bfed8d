/- The reference's of: the trie of pairs, from nothing. -/
import Derived.Test.YtchimfgbdfmegaaGreatGam
namespace Go.Proofs.YtchimfgbdfmegaaGreat
open Go.RowKit Go.Lib
set_option linter.unusedVariables false
set_option maxRecDepth 100000
set_option linter.unusedSimpArgs false
set_option maxRecDepth 100000
attribute [local irreducible] cnt
/-- what of leaves behind -/
def OfPost (H : ByteArray → Nat) (N : Nat → Prop) (n l : Nat) (xs : List Pr) (w : World) : Ending → World → Prop := RetB fun b w1 => TrieR H N w1 n l b xs ∧ Below w.heap.size w w1
theorem blk_lt {w : World} {b : Nat} {o : Obj} (h : w.heap[b]? = some o) : b < w.heap.size := (Array.getElem?_eq_some_iff.1 h).1
theorem OwnU.at {base : Nat} {w : World} {v : Value} {hs : List Nat} (h : OwnU base w v hs) (j : Nat) (hj : j < hs.length) : ∃ g cap, v = .slice (some ⟨g, 0, none⟩) hs.length cap ∧ w.cell? ⟨g, j, none⟩ = some (.int .u64 (hs[j] : Nat)) := by
  obtain ⟨g, cap, cur, e, -⟩ := own_blk h (by omega)
  subst e
  have hh : w.ownsRow base 22 1 (.slice (some ⟨g, 0, none⟩) hs.length cap) hs.length (ucs hs) := h
  refine ⟨g, cap, rfl, ?_⟩
  rw [hh.cellAt _ (by omega)]
  simp [ucs, hj]
theorem info45 : (Tryz.prog.info? 55).map (fun i => (i.zero, i.size, i.bytes)) = some (some (.agg #[.string ⟨#[]⟩, .string ⟨#[]⟩]), 2, 32) := by kernel_rfl
theorem zsz_pair : (Value.cells (.agg #[.string ⟨#[]⟩, .string ⟨#[]⟩])).size = 2 := by simp [Value.cells]
/-- between two appends -/
structure G13 (B : Nat) (Wc W : World) (NN : Nat) (q : Pr) (gh j : Nat) (hq : Int) (v9 v10 : Value) (R : List Pr) (U : List Nat) : Prop where
  e0 : W.cell? ⟨NN, 0, none⟩ = some (.string q.1)
  e1 : W.cell? ⟨NN, 1, none⟩ = some (.string q.2)
  eh : W.cell? ⟨gh, j, none⟩ = some (.int .u64 hq)
  gl : gh < B
  n9 : v9.ownBlock ≠ some NN
  n10 : v10.ownBlock ≠ some NN
  nl : NN < W.heap.size
  r9 : W.ownsRow B 55 2 v9 R.length (flat R)
  r10 : W.ownsRow B 22 1 v10 U.length (ucs U)
  bel : Below B Wc W
  hb : B ≤ W.heap.size
section
variable {B : Nat} {Wc W W' : World} {NN : Nat} {q : Pr} {gh j : Nat} {hq : Int} {v9 v10 : Value} {R : List Pr} {U : List Nat}
theorem G13.drew (h : G13 B Wc W NN q gh j hq v9 v10 R U) : G13 B Wc W.drew NN q gh j hq v9 v10 R U := ⟨h.e0, h.e1, h.eh, h.gl, h.n9, h.n10, h.nl, h.r9, h.r10, h.bel.drew, h.hb⟩
theorem G13.S (h : G13 B Wc W NN q gh j hq v9 v10 R U) : W.cell? ⟨NN, 0, none⟩ = some (.string q.1) ∧ W.cell? ⟨NN, 1, none⟩ = some (.string q.2) ∧ W.cell? ⟨gh, j, none⟩ = some (.int .u64 hq) := ⟨h.e0, h.e1, h.eh⟩
theorem G13.alloc (h : G13 B Wc W NN q gh j hq v9 v10 R U) (o : Obj) : G13 B Wc (W.alloc o) NN q gh j hq v9 v10 R U := by
  have hk : Below W.heap.size W (W.alloc o) := (Below.refl _ W).alloc (Nat.le_refl _) o
  have hK : Keep [] W (W.alloc o) := Keep.of_below hk
  have c : ∀ a : Addr, a.block < W.heap.size → (W.alloc o).cell? a = W.cell? a := fun a ha => hk.cell ha
  exact ⟨(c _ h.nl).trans h.e0, (c _ h.nl).trans h.e1, (c _ (Nat.lt_of_lt_of_le h.gl h.hb)).trans h.eh, h.gl, h.n9, h.n10, Nat.lt_of_lt_of_le h.nl hk.size, own_keep h.r9 hK (by simp), own_keep h.r10 hK (by simp), h.bel.alloc h.hb o, Nat.le_trans h.hb hk.size⟩
theorem G13.grow {row : Option Nat} (h : G13 B Wc W NN q gh j hq v9 v10 R U) (hg : W.grownBy W' row) (hr : ∀ k, row = some k → B ≤ k) (hn : row ≠ some NN) : W'.cell? ⟨NN, 0, none⟩ = some (.string q.1) ∧ W'.cell? ⟨NN, 1, none⟩ = some (.string q.2) ∧ W'.cell? ⟨gh, j, none⟩ = some (.int .u64 hq) ∧ Below B Wc W' ∧ NN < W'.heap.size ∧ B ≤ W'.heap.size := by
  have hne : some NN ≠ row := fun e => hn e.symm
  have hne2 : some gh ≠ row := fun e => by have := hr gh e.symm; have := h.gl; omega
  exact ⟨(hg.cell_far ⟨NN, 0, none⟩ h.nl hne).trans h.e0, (hg.cell_far ⟨NN, 1, none⟩ h.nl hne).trans h.e1, (hg.cell_far ⟨gh, j, none⟩ (Nat.lt_of_lt_of_le h.gl h.hb) hne2).trans h.eh, h.bel.grown hg h.hb hr, Nat.lt_of_lt_of_le h.nl hg.size, Nat.le_trans h.hb hg.size⟩
theorem G13.grow9 {g cap : Nat} (h : G13 B Wc W NN q gh j hq v9 v10 R U) (hg : W.grownBy W' v9.ownBlock) (ho : W'.ownsRow B 55 2 (.slice (some ⟨g, 0, none⟩) (R.length + 1) cap) (R.length + 1) (flat R ++ [.string q.1, .string q.2])) (ha : v9.ownBlock = some g ∨ g = W.heap.size) :
    G13 B Wc W' NN q gh j hq (.slice (some ⟨g, 0, none⟩) (R.length + 1) cap) v10 (R ++ [q]) U := by
  obtain ⟨a1, a2, a3, a4, a5, a6⟩ := h.grow hg (own_ge h.r9) h.n9
  refine ⟨a1, a2, a3, h.gl, fun e => ?_, h.n10, a5, OwnR.snoc ho, own_keep h.r10 (keep_grown hg) fun x hx e => ?_, a4, a6⟩
  · simp [Value.ownBlock] at e
    rcases ha with ha | ha
    · exact h.n9 (by rw [ha, e])
    · have := h.nl; omega
  · have hx' : v9.ownBlock = some x := by simpa using hx
    obtain ⟨c1, e1⟩ := own_cells h.r9 x hx'
    obtain ⟨c2, e2⟩ := own_cells h.r10 x e
    rw [e1] at e2; simp at e2
theorem G13.grow10 {g cap : Nat} {hn : Nat} (hhq : hq = (hn : Nat)) (h : G13 B Wc W NN q gh j hq v9 v10 R U) (hg : W.grownBy W' v10.ownBlock) (ho : W'.ownsRow B 22 1 (.slice (some ⟨g, 0, none⟩) (U.length + 1) cap) (U.length + 1) (ucs U ++ [.int .u64 hq])) (ha : v10.ownBlock = some g ∨ g = W.heap.size) :
    G13 B Wc W' NN q gh j hq v9 (.slice (some ⟨g, 0, none⟩) (U.length + 1) cap) R (U ++ [hn]) := by
  obtain ⟨a1, a2, a3, a4, a5, a6⟩ := h.grow hg (own_ge h.r10) h.n10
  refine ⟨a1, a2, a3, h.gl, h.n9, fun e => ?_, a5, own_keep h.r9 (keep_grown hg) fun x hx e => ?_, ?_, a4, a6⟩
  · simp [Value.ownBlock] at e
    rcases ha with ha | ha
    · exact h.n10 (by rw [ha, e])
    · have := h.nl; omega
  · have hx' : v10.ownBlock = some x := by simpa using hx
    obtain ⟨c1, e1⟩ := own_cells h.r10 x hx'
    obtain ⟨c2, e2⟩ := own_cells h.r9 x e
    rw [e1] at e2; simp at e2
  · have e1 : ucs (U ++ [hn]) = ucs U ++ [.int .u64 hq] := by rw [hhq]; simp [ucs]
    rw [e1, List.length_append]; exact ho
end
theorem of_zero (H : ByteArray → Nat) (N : Nat → Prop) (A : Option Addr) (c : Nat) (xs : List Pr) (v : Value) (w : World) (hR : Rd w A xs) (hA : ∀ a, A = some a → ¬ N a.block) (hN : ∀ x, N x → x < w.heap.size) :
    Calls Tryz.prog 36 #[.slice A xs.length c, v, .int .i64 13] w (OfPost H N 0 13 xs w) := by
  have hB := (Below.refl _ w).alloc (Nat.le_refl _) (.cells (rcs (rb0 true (.slice A xs.length c))).toArray 60)
  have hb := RB.new w (rb0 true (.slice A xs.length c))
  have HR := Lib.hid (hR.below hB)
  have hnN : ¬ N w.heap.size := fun h => Nat.lt_irrefl _ (hN _ h)
  clear hR
  go_enter Tryz.func36, Tryz.ntmps36
  go_wp2_with (first
    | (with_reducible refine wpList_runAt rfl _ rfl _ _ (build133 _ _ _ _ _ _ _ _ rfl rfl rfl) ?_)
    | (with_reducible refine wpList_runAt rfl _ rfl _ _ (box133 _ _ _ _ _ rfl rfl) ?_))
  go_ret
  exact ⟨_, rfl, ⟨_, A, c, hb, hnN, rfl, rfl, HR.out, hA⟩, hB⟩

end Go.Proofs.YtchimfgbdfmegaaGreat
