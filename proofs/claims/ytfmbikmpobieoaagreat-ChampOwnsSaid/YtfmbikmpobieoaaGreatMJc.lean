/- Versions: roots and lists, side by side. -/
import Derived.Test.YtfmbikmpobieoaaGreatMFc
import Derived.Test.YtfmbikmpobieoaaGreatMQ
namespace Go.Proofs.YtfmbikmpobieoaaGreat
open Go.RowKit Go.Lib
set_option linter.unusedVariables false
set_option linter.unusedSimpArgs false
set_option maxRecDepth 100000
attribute [local irreducible] cnt
/-- a version: its root, the slice of its pairs, and these -/
structure Ver where
  b : Nat
  v : Value
  ps : List Pr
def atBlk (v : Value) : Nat → Prop := fun x => v.ownBlock = some x
structure VR (k0 k1 m : Int) (base : Nat) (W : World) (v5 v6 : Value) (bs : List Nat) (ls : List Value) (ts : List (Nat × List Pr)) (us : List (Value × List Pr)) : Prop where
  r5 : W.ownsRow base 30 1 v5 bs.length (kcs bs)
  r6 : W.ownsRow base 32 1 v6 ls.length ls
  eT : ∀ e ∈ ts, TX (atBlk v5) k0 k1 m base W e.1 e.2
  eL : ∀ e ∈ us, OwnR base W e.1 e.2
  hb : base ≤ W.heap.size
section
variable {k0 k1 m : Int} {base : Nat} {W W' : World} {v5 v6 : Value} {bs : List Nat} {ls : List Value} {ts : List (Nat × List Pr)} {us : List (Value × List Pr)}
theorem VR.below (h : VR k0 k1 m base W v5 v6 bs ls ts us) (hb : Below W.heap.size W W') : VR k0 k1 m base W' v5 v6 bs ls ts us :=
  ⟨own_keep h.r5 (Keep.of_below (X := []) hb) (by simp), own_keep h.r6 (Keep.of_below (X := []) hb) (by simp), fun e he => (h.eT e he).below hb, fun e he => (h.eL e he).below' hb, Nat.le_trans h.hb hb.size⟩
theorem VR.addT (h : VR k0 k1 m base W v5 v6 bs ls ts us) {b : Nat} {ps : List Pr} (hT : TX (atBlk v5) k0 k1 m base W b ps) : VR k0 k1 m base W v5 v6 bs ls (ts ++ [(b, ps)]) us :=
  ⟨h.r5, h.r6, fun e he => by
    rcases List.mem_append.1 he with he | he
    · exact h.eT e he
    · rw [List.mem_singleton] at he; rw [he]; exact hT, h.eL, h.hb⟩
theorem VR.addL (h : VR k0 k1 m base W v5 v6 bs ls ts us) {v : Value} {ps : List Pr} (hL : OwnR base W v ps) : VR k0 k1 m base W v5 v6 bs ls ts (us ++ [(v, ps)]) :=
  ⟨h.r5, h.r6, h.eT, fun e he => by
    rcases List.mem_append.1 he with he | he
    · exact h.eL e he
    · rw [List.mem_singleton] at he; rw [he]; exact hL, h.hb⟩
theorem VR.xlt (h : VR k0 k1 m base W v5 v6 bs ls ts us) : ∀ x, atBlk v5 x → x < W.heap.size := fun x hx => by
  obtain ⟨cur, hc⟩ := own_cells h.r5 x hx
  exact blk_lt hc
theorem VR.grow5 {g cap b : Nat} (h : VR k0 k1 m base W v5 v6 bs ls ts us) (hg : W.grownBy W' v5.ownBlock) (ho : W'.ownsRow base 30 1 (.slice (some ⟨g, 0, none⟩) (bs.length + 1) cap) (bs.length + 1) (kcs bs ++ [at0 b])) (ha : v5.ownBlock = some g ∨ g = W.heap.size) :
    VR k0 k1 m base W' (.slice (some ⟨g, 0, none⟩) (bs.length + 1) cap) v6 (bs ++ [b]) ls ts us := by
  have kk := keep_grown hg
  have hty : ∀ x, v5.ownBlock = some x → ∃ cs, Blk W x 30 cs := fun x hx => own_cells h.r5 x hx
  have hKF : KeepF (fun x => atBlk v5 x ∨ W.heap.size ≤ x) W W' := (KeepF.ofKeep kk).mono fun x hx => .inl (.inl (by simpa [atBlk] using hx))
  refine ⟨?_, own_keep h.r6 kk fun x hx e => ?_, fun e he => ?_, fun e he => own_keep (h.eL e he) kk fun x hx e' => ?_, Nat.le_trans h.hb hg.size⟩
  · rw [List.length_append]
    have e1 : kcs (bs ++ [b]) = kcs bs ++ [at0 b] := by simp [kcs]
    rw [e1]; exact ho
  · obtain ⟨cs, hc⟩ := hty x (by simpa using hx)
    obtain ⟨cur, hc2⟩ := own_cells h.r6 x e
    unfold Blk at hc
    rw [hc2] at hc; simp at hc
  · have t1 : TX (fun x => atBlk v5 x ∨ W.heap.size ≤ x) k0 k1 m base W e.1 e.2 := (h.eT e he).set fun x hx => by
      rcases hx with hx | hx
      · exact .inl hx
      · exact .inr (.inl hx)
    have t2 := t1.keep hKF fun x hx cs hB => by
      rcases hx with hx | hx
      · obtain ⟨cs', hc⟩ := hty x hx
        unfold Blk at hc hB
        rw [hc] at hB; simp at hB
      · have := blk_lt hB; omega
    exact t2.set fun x hx => .inl (by
      unfold atBlk at hx
      simp [Value.ownBlock] at hx
      subst hx
      rcases ha with ha | ha
      · exact .inl ha
      · exact .inr (by omega))
  · obtain ⟨cs, hc⟩ := hty x (by simpa using hx)
    obtain ⟨cur, hc2⟩ := own_cells (h.eL e he) x e'
    unfold Blk at hc
    rw [hc2] at hc; simp at hc
theorem VR.grow6 {g cap : Nat} {u : Value} (h : VR k0 k1 m base W v5 v6 bs ls ts us) (hg : W.grownBy W' v6.ownBlock) (ho : W'.ownsRow base 32 1 (.slice (some ⟨g, 0, none⟩) (ls.length + 1) cap) (ls.length + 1) (ls ++ [u])) :
    VR k0 k1 m base W' v5 (.slice (some ⟨g, 0, none⟩) (ls.length + 1) cap) bs (ls ++ [u]) ts us := by
  have kk := keep_grown hg
  have hty : ∀ x, v6.ownBlock = some x → ∃ cs, Blk W x 32 cs := fun x hx => own_cells h.r6 x hx
  refine ⟨own_keep h.r5 kk fun x hx e => ?_, ?_, fun e he => ?_, fun e he => own_keep (h.eL e he) kk fun x hx e' => ?_, Nat.le_trans h.hb hg.size⟩
  · obtain ⟨cs, hc⟩ := hty x (by simpa using hx)
    obtain ⟨cur, hc2⟩ := own_cells h.r5 x e
    unfold Blk at hc
    rw [hc2] at hc; simp at hc
  · rw [List.length_append]; exact ho
  · have t1 : TX (fun x => atBlk v5 x ∨ atBlk v6 x) k0 k1 m base W e.1 e.2 := (h.eT e he).set fun x hx => by
      rcases hx with hx | hx
      · exact .inl hx
      · obtain ⟨cs, hc⟩ := hty x hx
        exact .inr (.inr ⟨32, cs, hc, by decide, by decide, by decide, by decide⟩)
    have hKF : KeepF (fun x => atBlk v5 x ∨ atBlk v6 x) W W' := (KeepF.ofKeep kk).mono fun x hx => .inl (.inr (by simpa [atBlk] using hx))
    have t2 := t1.keep hKF fun x hx cs hB => by
      rcases hx with hx | hx
      · obtain ⟨cs', hc⟩ := own_cells h.r5 x hx
        unfold Blk at hB
        rw [hc] at hB; simp at hB
      · obtain ⟨cs', hc⟩ := hty x hx
        unfold Blk at hc hB
        rw [hc] at hB; simp at hB
    exact t2.set fun x hx => .inl (.inl hx)
  · obtain ⟨cs, hc⟩ := hty x (by simpa using hx)
    obtain ⟨cur, hc2⟩ := own_cells (h.eL e he) x e'
    unfold Blk at hc
    rw [hc2] at hc; simp at hc
/-- other blocks, beside the two rows -/
theorem VR.far5 (h : VR k0 k1 m base W v5 v6 bs ls ts us) (hg : W.grownBy W' v5.ownBlock) {b : Nat} {t : TypeId} {cs : Array Value} (hB : Blk W b t cs) (ht : t ≠ 30) : Blk W' b t cs := hB.keep (keep_grown hg) fun hm => by
  obtain ⟨cs', hc⟩ := own_cells h.r5 b (by simpa using hm)
  unfold Blk at hB
  rw [hc] at hB; simp at hB; exact ht hB.2.symm
theorem VR.far6 (h : VR k0 k1 m base W v5 v6 bs ls ts us) (hg : W.grownBy W' v6.ownBlock) {b : Nat} {t : TypeId} {cs : Array Value} (hB : Blk W b t cs) (ht : t ≠ 32) : Blk W' b t cs := hB.keep (keep_grown hg) fun hm => by
  obtain ⟨cs', hc⟩ := own_cells h.r6 b (by simpa using hm)
  unfold Blk at hB
  rw [hc] at hB; simp at hB; exact ht hB.2.symm
end
def VersR (k0 k1 m : Int) (base : Nat) (W : World) (v5 v6 : Value) (vs : List Ver) : Prop := VR k0 k1 m base W v5 v6 (vs.map (·.b)) (vs.map (·.v)) (vs.map fun e => (e.b, e.ps)) (vs.map fun e => (e.v, e.ps))
theorem VersR.snoc {k0 k1 m : Int} {base : Nat} {W : World} {v5 v6 : Value} {vs : List Ver} {e : Ver} (h : VR k0 k1 m base W v5 v6 (vs.map (·.b) ++ [e.b]) (vs.map (·.v) ++ [e.v]) (vs.map (fun e => (e.b, e.ps)) ++ [(e.b, e.ps)]) (vs.map (fun e => (e.v, e.ps)) ++ [(e.v, e.ps)])) : VersR k0 k1 m base W v5 v6 (vs ++ [e]) := by
  unfold VersR
  simpa using h
theorem info32 : (Tryz.prog.info? 32).map (fun i => (i.zero, i.size, i.bytes)) = some (some (.slice none 0 0), 1, 24) := by kernel_rfl
theorem zsz_sl : (Value.cells (.slice none 0 0)).size = 1 := by simp [Value.cells]
theorem row_at {w : World} {base t n : Nat} {v : Value} {xs : List Value} (h : w.ownsRow base t 1 v n xs) (j : Nat) (hj : j < n) (u : Value) (hu : xs[j]? = some u) : ∃ g cap, v = .slice (some ⟨g, 0, none⟩) n cap ∧ w.cell? ⟨g, j, none⟩ = some u := by
  obtain ⟨g, cap, cur, e, -⟩ := own_blk h (by omega)
  subst e
  refine ⟨g, cap, rfl, ?_⟩
  rw [h.cellAt _ (by have := h.1; omega)]
  exact hu
end Go.Proofs.YtfmbikmpobieoaaGreat
