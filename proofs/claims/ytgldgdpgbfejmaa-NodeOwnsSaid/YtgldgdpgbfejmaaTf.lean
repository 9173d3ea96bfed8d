/- A slice of tokens of one pool: what holds of it, and what keeps it. -/
import Derived.Test.YtgldgdpgbfejmaaTe
import Derived.OwnWalk
import Derived.Maps.AppendAt
namespace Go.Proofs.Ytgldgdpgbfejmaa
open Go.RowKit Go.Conc
set_option linter.unusedVariables false
set_option linter.unusedSimpArgs false

theorem info57 : (Try.prog.info? 64).map (fun i => (i.zero, i.size, i.bytes)) = some (some (.pointer none), 1, 8) := by kernel_rfl
theorem own_ge {w : World} {base : Nat} {e : TypeId} {size n : Nat} {v : Value} {xs : List Value} (h : w.ownsRow base e size v n xs) : ∀ k, v.ownBlock = some k → base ≤ k := by
  rcases h.2 with ⟨rfl, _⟩ | ⟨g, cap, cur, rfl, hg, _⟩
  · intro k hk; simp [Value.ownBlock] at hk
  · intro k hk; simp [Value.ownBlock] at hk; omega
/-- a row's block is a row of that type -/
theorem own_cells {w : World} {base : Nat} {e : TypeId} {size n : Nat} {v : Value} {xs : List Value} (h : w.ownsRow base e size v n xs) : ∀ k, v.ownBlock = some k → ∃ cur, w.heap[k]? = some (.cells cur e (0, 0)) := by
  rcases h.2 with ⟨rfl, _⟩ | ⟨g, cap, cur, rfl, hg, hh, _⟩
  · intro k hk; simp [Value.ownBlock] at hk
  · intro k hk; simp [Value.ownBlock] at hk; subst hk; exact ⟨cur, hh⟩
theorem own_ne {w : World} {base : Nat} {e : TypeId} {size n : Nat} {v : Value} {xs : List Value} (h : w.ownsRow base e size v n xs) {b : Nat} (hb : ∀ cur, w.heap[b]? ≠ some (.cells cur e (0, 0))) : v.ownBlock ≠ some b := by
  intro hk
  obtain ⟨cur, hc⟩ := own_cells h b hk
  exact hb cur hc
theorem own_keep {w w' : World} {X : List Nat} {base : Nat} {e : TypeId} {size n : Nat} {v : Value} {xs : List Value} (h : w.ownsRow base e size v n xs) (hk : Keep X w w') (hX : ∀ x ∈ X, v.ownBlock ≠ some x) : w'.ownsRow base e size v n xs := by
  refine ⟨h.1, ?_⟩
  rcases h.2 with h1 | ⟨g, cap, cur, rfl, hg, hh, h3⟩
  · exact .inl h1
  · refine .inr ⟨g, cap, cur, rfl, hg, ?_, h3⟩
    have hlt : g < w.heap.size := by
      rcases Nat.lt_or_ge g w.heap.size with hlt | hge
      · exact hlt
      · rw [Array.getElem?_eq_none hge] at hh; cases hh
    exact (hk.block g hlt (fun hm => hX g hm rfl)).trans hh
theorem Keep.grown {X : List Nat} {a w w' : World} {row : Option Nat} (h : Keep X a w) (hg : w.grownBy w' row) (hr : ∀ k, row = some k → k ∈ X ∨ a.heap.size ≤ k) : Keep X a w' :=
  ⟨h.all.trans ⟨hg.os, hg.tape, hg.output, hg.size, fun i hi => by omega⟩, fun i hi hx => (hg.block i (Nat.lt_of_lt_of_le hi h.all.size) (fun e => by
    rcases hr i e.symm with h1 | h1
    · exact hx h1
    · omega)).trans (h.block i hi hx)⟩

theorem own_succ {W : World} {base : Nat} {e : TypeId} {size : Nat} {v : Value} {k : Nat} {xs : List Value} (h : W.ownsRow base e size v (k + 1) xs) : ∃ g cap, v = .slice (some ⟨g, 0, none⟩) (k + 1) cap := by
  rcases h.2 with ⟨_, h0⟩ | ⟨g, cap, cur, rfl, hg, _⟩
  · omega
  · exact ⟨g, cap, rfl⟩
/-- a token: its block, its id, whether it is live -/
abbrev TL := List (Nat × Nat × Bool)
/-- the slice v has just these tokens of pool p -/
structure Toks (base : Nat) (w : World) (p : Nat) (v : Value) (L : TL) : Prop where
  row : w.ownsRow base 64 1 v L.length (L.map fun x => at0 x.1)
  tok : ∀ x ∈ L, Tok w x.1 p x.2.1 x.2.2 ∧ base ≤ x.1
  nd : (L.map (·.1)).Nodup
theorem Toks.nil (base : Nat) (w : World) (p : Nat) : Toks base w p (.slice none 0 0) [] := ⟨World.ownsRow_nil _ _ _ _, by simp, by simp⟩
theorem Toks.keep {base : Nat} {w w' : World} {p : Nat} {v : Value} {L : TL} (h : Toks base w p v L) {X : List Nat} (hk : Keep X w w')
    (hX : ∀ x ∈ X, ∀ cur, w.heap[x]? ≠ some (.cells cur 64 (0, 0))) (hT : ∀ x ∈ L, x.1 ∉ X) : Toks base w' p v L :=
  ⟨own_keep h.row hk (fun x hx => own_ne h.row (hX x hx)), fun x hx => ⟨(h.tok x hx).1.keep hk (hT x hx), (h.tok x hx).2⟩, h.nd⟩
theorem Pool.no57 {w : World} {p c k : Nat} {out : Int} {q : List Nat} (h : Pool w p c k out q) (cur : Array Value) : w.heap[p]? ≠ some (.cells cur 64 (0, 0)) ∧ w.heap[c]? ≠ some (.cells cur 64 (0, 0)) := by
  obtain ⟨hb, s, r, hc⟩ := h
  constructor
  · unfold Blk at hb; rw [hb]; intro h; cases h
  · rw [hc]; intro h; cases h
theorem Tok.no57 {w : World} {t p i : Nat} {l : Bool} (h : Tok w t p i l) (cur : Array Value) : w.heap[t]? ≠ some (.cells cur 64 (0, 0)) := by
  unfold Tok Blk at h; rw [h]; intro h; cases h
/-- what Take changes keeps them -/
theorem Toks.take {base : Nat} {w w' : World} {p p' c k : Nat} {out : Int} {q : List Nat} {v : Value} {L : TL} (h : Toks base w p v L) (hP : Pool w p' c k out q) (hk : Keep [p', c] w w') : Toks base w' p v L :=
  h.keep hk (by
    intro x hx cur
    simp only [List.mem_cons, List.not_mem_nil, or_false] at hx
    rcases hx with rfl | rfl
    · exact (hP.no57 cur).1
    · exact (hP.no57 cur).2) (fun x hx hm => by
    have := (h.tok x hx).1.ne hP
    simp only [List.mem_cons, List.not_mem_nil, or_false] at hm
    rcases hm with e | e
    · exact this.1 e
    · exact this.2 e)
/-- one more is appended -/
theorem Toks.snoc {base : Nat} {w w' : World} {p : Nat} {v v' : Value} {L : TL} (h : Toks base w p v L) {t i : Nat} (hT : Tok w t p i true) (hb : base ≤ t) (hnew : ∀ x ∈ L, x.1 ≠ t)
    (hrow : w'.ownsRow base 64 1 v' (L.length + 1) ((L.map fun x => at0 x.1) ++ [at0 t])) (hg : (w.alloc (.cells #[at0 t] 64)).grownBy w' v.ownBlock) : Toks base w' p v' (L ++ [(t, i, true)]) := by
  have hk : ∀ {t' p' i' : Nat} {l' : Bool}, Tok w t' p' i' l' → Tok w' t' p' i' l' := fun {t' p' i' l'} hT' => by
    have h1 : Tok (w.alloc (.cells #[at0 t] 64)) t' p' i' l' := Blk.alloc hT' _
    exact (hg.block t' (by have := hT'.lt; simp; omega) (fun e => own_ne h.row hT'.no57 e.symm)).trans h1
  refine ⟨?_, ?_, ?_⟩
  · simpa using hrow
  · intro x hx
    rcases List.mem_append.1 hx with hx | hx
    · exact ⟨hk (h.tok x hx).1, (h.tok x hx).2⟩
    · simp only [List.mem_cons, List.not_mem_nil, or_false] at hx
      subst hx
      exact ⟨hk hT, hb⟩
  · rw [List.map_append, List.nodup_append]
    refine ⟨h.nd, by simp, ?_⟩
    intro a ha b hb' e
    obtain ⟨x, hx, rfl⟩ := List.mem_map.1 ha
    simp only [List.map_cons, List.map_nil, List.mem_cons, List.not_mem_nil, or_false] at hb'
    exact hnew x hx (e.trans hb')
/-- one of them ends -/
theorem Toks.end_ {base : Nat} {w w' : World} {p c k : Nat} {out : Int} {q : List Nat} {v : Value} {L : TL} (h : Toks base w p v L) (hP : Pool w p c k out q) (j : Nat) (x : Nat × Nat × Bool) (hj : L[j]? = some x)
    (hT : Tok w' x.1 p x.2.1 false) (hk : Keep [p, c, x.1] w w') : Toks base w' p v (L.set j (x.1, x.2.1, false)) := by
  have hxm : x ∈ L := List.mem_of_getElem? hj
  obtain ⟨hjl, hjx⟩ := List.getElem?_eq_some_iff.1 hj
  have hmap : (L.set j (x.1, x.2.1, false)).map (·.1) = L.map (·.1) := by
    rw [List.map_set]
    apply List.ext_getElem (by simp)
    intro n h1 h2
    rw [List.getElem_set]
    split
    · rename_i e; subst e; simp [hjx]
    · rfl
  have hmap' : (L.set j (x.1, x.2.1, false)).map (fun y => at0 y.1) = L.map (fun y => at0 y.1) := by
    have e1 : ∀ l : TL, l.map (fun y => at0 y.1) = (l.map (·.1)).map at0 := fun l => by simp
    rw [e1, e1, hmap]
  refine ⟨?_, ?_, by rw [hmap]; exact h.nd⟩
  · rw [hmap', List.length_set]
    refine own_keep h.row hk ?_
    intro b hb
    simp only [List.mem_cons, List.not_mem_nil, or_false] at hb
    refine own_ne h.row fun cur => ?_
    rcases hb with rfl | rfl | rfl
    · exact (hP.no57 cur).1
    · exact (hP.no57 cur).2
    · exact (h.tok x hxm).1.no57 cur
  · intro y hy
    obtain ⟨n, hn⟩ := List.getElem?_of_mem hy
    rw [List.getElem?_set] at hn
    split at hn
    · rename_i e
      subst e
      obtain rfl := Option.some.inj hn
      exact ⟨hT, (h.tok x hxm).2⟩
    · rename_i hne
      have hyL : y ∈ L := List.mem_of_getElem? hn
      have hne1 : y.1 ≠ x.1 := by
        obtain ⟨hnl, hnx⟩ := List.getElem?_eq_some_iff.1 hn
        intro e
        have hn2 := List.pairwise_iff_getElem.1 h.nd
        have e1 : (L.map (·.1))[n]'(by simpa using hnl) = (L.map (·.1))[j]'(by simpa using hjl) := by simp [hnx, hjx, e]
        rcases Nat.lt_or_gt_of_ne hne with hl | hl
        · exact hn2 j n (by simpa using hjl) (by simpa using hnl) hl e1.symm
        · exact hn2 n j (by simpa using hnl) (by simpa using hjl) hl e1
      refine ⟨(h.tok y hyL).1.keep hk ?_, (h.tok y hyL).2⟩
      have := (h.tok y hyL).1.ne hP
      simp only [List.mem_cons, List.not_mem_nil, or_false]
      rintro (e | e | e)
      · exact this.1 e
      · exact this.2 e
      · exact hne1 e
theorem Pool.grown {base : Nat} {w w' : World} {p c k n : Nat} {out : Int} {q : List Nat} {v : Value} {xs : List Value} {o : Obj} (h : Pool w p c k out q) (hrow : w.ownsRow base 64 1 v n xs) (hg : (w.alloc o).grownBy w' v.ownBlock) : Pool w' p c k out q := by
  have hl := h.lt
  have hn := fun cur => h.no57 cur
  obtain ⟨hb, s, r, hc⟩ := h
  refine ⟨?_, s, r, ?_⟩
  · exact (hg.block p (by simp; omega) (fun e => own_ne hrow (fun cur => (hn cur).1) e.symm)).trans (hb.alloc o)
  · exact (hg.block c (by simp; omega) (fun e => own_ne hrow (fun cur => (hn cur).2) e.symm)).trans ((Below.heap_alloc w o c hl.2.1).trans hc)
/-- one of them, read out of the slice -/
theorem Toks.cell {base : Nat} {w : World} {p : Nat} {v : Value} {L : TL} (h : Toks base w p v L) (j : Nat) (x : Nat × Nat × Bool) (hj : L[j]? = some x) :
    ∃ g cap, v = .slice (some ⟨g, 0, none⟩) L.length cap ∧ w.cell? ⟨g, j, none⟩ = some (at0 x.1) := by
  obtain ⟨hjl, hjx⟩ := List.getElem?_eq_some_iff.1 hj
  have hr := h.row
  rcases hr.2 with ⟨_, h0⟩ | ⟨g, cap, cur, rfl, hg, _⟩
  · omega
  · refine ⟨g, cap, rfl, ?_⟩
    rw [hr.cellAt j (by omega), List.getElem?_map, hj]
    rfl
end Go.Proofs.Ytgldgdpgbfejmaa
