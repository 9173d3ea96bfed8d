/- A slice of tokens of one pool: what holds of it, and what keeps it. -/
import Derived.Test.YtimhdegdmdilaaaHaa
import Derived.OwnWalk
import Derived.Maps.AppendAt
import Derived.Laws.CopyOwn
import Derived.Laws.CopyRow
import Derived.Laws.IdiomCopy
import Derived.Lib.SliceRun
import Derived.Lib.Overlaps
import Derived.Lib.AppendZerosOnto
import Derived.Deep.RegionLaw
import Derived.Shelf.RegionOpenPlain
import Derived.Laws.Externs
import Derived.Laws.NewBlocks
namespace Go.Proofs.Ytimhdegdmdilaaa
open Go.RowKit Go.Conc
set_option linter.unusedVariables false
set_option maxRecDepth 100000
set_option maxRecDepth 100000
set_option linter.unusedSimpArgs false
set_option linter.unnecessarySimpa false

theorem info57 : (Try.prog.info? 124).map (fun i => (i.zero, i.size, i.bytes)) = some (some (.pointer none), 1, 8) := by kernel_rfl
theorem own_ge {w : World} {base : Nat} {e : TypeId} {size n : Nat} {v : Value} {xs : List Value} (h : w.ownsRow base e size v n xs) : ∀ k, v.ownBlock = some k → base ≤ k := by
  rcases h.2 with ⟨rfl, _⟩ | ⟨g, cap, cur, rfl, hg, _⟩
  · intro k hk; simp [Value.ownBlock] at hk
  · intro k hk; simp [Value.ownBlock] at hk; omega
/-- a row's block is a row of that type -/
theorem own_cells {w : World} {base : Nat} {e : TypeId} {size n : Nat} {v : Value} {xs : List Value} (h : w.ownsRow base e size v n xs) : ∀ k, v.ownBlock = some k → ∃ cur, w.heap[k]? = some (.cells cur e (0, 0)) := by
  rcases h.2 with ⟨rfl, _⟩ | ⟨g, cap, cur, rfl, hg, hh, _⟩
  · intro k hk; simp [Value.ownBlock] at hk
  · intro k hk; simp [Value.ownBlock] at hk; subst hk; exact ⟨cur, hh⟩
theorem own_ne {w : World} {base : Nat} {e : TypeId} {size n : Nat} {v : Value} {xs : List Value} (h : w.ownsRow base e size v n xs) {b : Nat} (hb : ∀ cur, w.heap[b]? ≠ some (.cells cur e (0, 0))) : v.ownBlock ≠ some b := by
  intro hk
  obtain ⟨cur, hc⟩ := own_cells h b hk
  exact hb cur hc
theorem own_keep {w w' : World} {X : List Nat} {base : Nat} {e : TypeId} {size n : Nat} {v : Value} {xs : List Value} (h : w.ownsRow base e size v n xs) (hk : Keep X w w') (hX : ∀ x ∈ X, v.ownBlock ≠ some x) : w'.ownsRow base e size v n xs := by
  refine ⟨h.1, ?_⟩
  rcases h.2 with h1 | ⟨g, cap, cur, rfl, hg, hh, h3⟩
  · exact .inl h1
  · refine .inr ⟨g, cap, cur, rfl, hg, ?_, h3⟩
    have hlt : g < w.heap.size := by
      rcases Nat.lt_or_ge g w.heap.size with hlt | hge
      · exact hlt
      · rw [Array.getElem?_eq_none hge] at hh; cases hh
    exact (hk.block g hlt (fun hm => hX g hm rfl)).trans hh
theorem Keep.grown {X : List Nat} {a w w' : World} {row : Option Nat} (h : Keep X a w) (hg : w.grownBy w' row) (hr : ∀ k, row = some k → k ∈ X ∨ a.heap.size ≤ k) : Keep X a w' :=
  ⟨h.all.trans ⟨hg.os, hg.tape, hg.output, hg.size, fun i hi => by omega⟩, fun i hi hx => (hg.block i (Nat.lt_of_lt_of_le hi h.all.size) (fun e => by
    rcases hr i e.symm with h1 | h1
    · exact hx h1
    · omega)).trans (h.block i hi hx)⟩

theorem own_succ {W : World} {base : Nat} {e : TypeId} {size : Nat} {v : Value} {k : Nat} {xs : List Value} (h : W.ownsRow base e size v (k + 1) xs) : ∃ g cap, v = .slice (some ⟨g, 0, none⟩) (k + 1) cap := by
  rcases h.2 with ⟨_, h0⟩ | ⟨g, cap, cur, rfl, hg, _⟩
  · omega
  · exact ⟨g, cap, rfl⟩
/-- a token: its block, its id, whether it is live -/
abbrev TL := List (Nat × Nat × Bool)
/-- the slice v has just these tokens of pool p -/
structure Toks (base : Nat) (w : World) (p : Nat) (v : Value) (L : TL) : Prop where
  row : w.ownsRow base 124 1 v L.length (L.map fun x => at0 x.1)
  tok : ∀ x ∈ L, Tok w x.1 p x.2.1 x.2.2 ∧ base ≤ x.1
  nd : (L.map (·.1)).Nodup
theorem Toks.nil (base : Nat) (w : World) (p : Nat) : Toks base w p (.slice none 0 0) [] := ⟨World.ownsRow_nil _ _ _ _, by simp, by simp⟩
theorem Toks.keep {base : Nat} {w w' : World} {p : Nat} {v : Value} {L : TL} (h : Toks base w p v L) {X : List Nat} (hk : Keep X w w')
    (hX : ∀ x ∈ X, ∀ cur, w.heap[x]? ≠ some (.cells cur 124 (0, 0))) (hT : ∀ x ∈ L, x.1 ∉ X) : Toks base w' p v L :=
  ⟨own_keep h.row hk (fun x hx => own_ne h.row (hX x hx)), fun x hx => ⟨(h.tok x hx).1.keep hk (hT x hx), (h.tok x hx).2⟩, h.nd⟩
theorem Pool.no57 {w : World} {p c k : Nat} {out : Int} {q : List Nat} (h : Pool w p c k out q) (cur : Array Value) : w.heap[p]? ≠ some (.cells cur 124 (0, 0)) ∧ w.heap[c]? ≠ some (.cells cur 124 (0, 0)) := by
  obtain ⟨hb, s, r, hc⟩ := h
  constructor
  · unfold Blk at hb; rw [hb]; intro h; cases h
  · rw [hc]; intro h; cases h
theorem Tok.no57 {w : World} {t p i : Nat} {l : Bool} (h : Tok w t p i l) (cur : Array Value) : w.heap[t]? ≠ some (.cells cur 124 (0, 0)) := by
  unfold Tok Blk at h; rw [h]; intro h; cases h
/-- what Take changes keeps them -/
theorem Toks.take {base : Nat} {w w' : World} {p p' c k : Nat} {out : Int} {q : List Nat} {v : Value} {L : TL} (h : Toks base w p v L) (hP : Pool w p' c k out q) (hk : Keep [p', c] w w') : Toks base w' p v L :=
  h.keep hk (by
    intro x hx cur
    simp only [List.mem_cons, List.not_mem_nil, or_false] at hx
    rcases hx with rfl | rfl
    · exact (hP.no57 cur).1
    · exact (hP.no57 cur).2) (fun x hx hm => by
    have := (h.tok x hx).1.ne hP
    simp only [List.mem_cons, List.not_mem_nil, or_false] at hm
    rcases hm with e | e
    · exact this.1 e
    · exact this.2 e)
/-- one more is appended -/
theorem Toks.snoc {base : Nat} {w w' : World} {p : Nat} {v v' : Value} {L : TL} (h : Toks base w p v L) {t i : Nat} (hT : Tok w t p i true) (hb : base ≤ t) (hnew : ∀ x ∈ L, x.1 ≠ t)
    (hrow : w'.ownsRow base 124 1 v' (L.length + 1) ((L.map fun x => at0 x.1) ++ [at0 t])) (hg : (w.alloc (.cells #[at0 t] 124)).grownBy w' v.ownBlock) : Toks base w' p v' (L ++ [(t, i, true)]) := by
  have hk : ∀ {t' p' i' : Nat} {l' : Bool}, Tok w t' p' i' l' → Tok w' t' p' i' l' := fun {t' p' i' l'} hT' => by
    have h1 : Tok (w.alloc (.cells #[at0 t] 124)) t' p' i' l' := Blk.alloc hT' _
    exact (hg.block t' (by have := hT'.lt; simp; omega) (fun e => own_ne h.row hT'.no57 e.symm)).trans h1
  refine ⟨?_, ?_, ?_⟩
  · simpa using hrow
  · intro x hx
    rcases List.mem_append.1 hx with hx | hx
    · exact ⟨hk (h.tok x hx).1, (h.tok x hx).2⟩
    · simp only [List.mem_cons, List.not_mem_nil, or_false] at hx
      subst hx
      exact ⟨hk hT, hb⟩
  · rw [List.map_append, List.nodup_append]
    refine ⟨h.nd, by simp, ?_⟩
    intro a ha b hb' e
    obtain ⟨x, hx, rfl⟩ := List.mem_map.1 ha
    simp only [List.map_cons, List.map_nil, List.mem_cons, List.not_mem_nil, or_false] at hb'
    exact hnew x hx (e.trans hb')
/-- one of them ends -/
theorem Toks.end_ {base : Nat} {w w' : World} {p c k : Nat} {out : Int} {q : List Nat} {v : Value} {L : TL} (h : Toks base w p v L) (hP : Pool w p c k out q) (j : Nat) (x : Nat × Nat × Bool) (hj : L[j]? = some x)
    (hT : Tok w' x.1 p x.2.1 false) (hk : Keep [p, c, x.1] w w') : Toks base w' p v (L.set j (x.1, x.2.1, false)) := by
  have hxm : x ∈ L := List.mem_of_getElem? hj
  obtain ⟨hjl, hjx⟩ := List.getElem?_eq_some_iff.1 hj
  have hmap : (L.set j (x.1, x.2.1, false)).map (·.1) = L.map (·.1) := by
    rw [List.map_set]
    apply List.ext_getElem (by simp)
    intro n h1 h2
    rw [List.getElem_set]
    split
    · rename_i e; subst e; simp [hjx]
    · rfl
  have hmap' : (L.set j (x.1, x.2.1, false)).map (fun y => at0 y.1) = L.map (fun y => at0 y.1) := by
    have e1 : ∀ l : TL, l.map (fun y => at0 y.1) = (l.map (·.1)).map at0 := fun l => by simp
    rw [e1, e1, hmap]
  refine ⟨?_, ?_, by rw [hmap]; exact h.nd⟩
  · rw [hmap', List.length_set]
    refine own_keep h.row hk ?_
    intro b hb
    simp only [List.mem_cons, List.not_mem_nil, or_false] at hb
    refine own_ne h.row fun cur => ?_
    rcases hb with rfl | rfl | rfl
    · exact (hP.no57 cur).1
    · exact (hP.no57 cur).2
    · exact (h.tok x hxm).1.no57 cur
  · intro y hy
    obtain ⟨n, hn⟩ := List.getElem?_of_mem hy
    rw [List.getElem?_set] at hn
    split at hn
    · rename_i e
      subst e
      obtain rfl := Option.some.inj hn
      exact ⟨hT, (h.tok x hxm).2⟩
    · rename_i hne
      have hyL : y ∈ L := List.mem_of_getElem? hn
      have hne1 : y.1 ≠ x.1 := by
        obtain ⟨hnl, hnx⟩ := List.getElem?_eq_some_iff.1 hn
        intro e
        have hn2 := List.pairwise_iff_getElem.1 h.nd
        have e1 : (L.map (·.1))[n]'(by simpa using hnl) = (L.map (·.1))[j]'(by simpa using hjl) := by simp [hnx, hjx, e]
        rcases Nat.lt_or_gt_of_ne hne with hl | hl
        · exact hn2 j n (by simpa using hjl) (by simpa using hnl) hl e1.symm
        · exact hn2 n j (by simpa using hnl) (by simpa using hjl) hl e1
      refine ⟨(h.tok y hyL).1.keep hk ?_, (h.tok y hyL).2⟩
      have := (h.tok y hyL).1.ne hP
      simp only [List.mem_cons, List.not_mem_nil, or_false]
      rintro (e | e | e)
      · exact this.1 e
      · exact this.2 e
      · exact hne1 e
theorem Pool.grown {base : Nat} {w w' : World} {p c k n : Nat} {out : Int} {q : List Nat} {v : Value} {xs : List Value} {o : Obj} (h : Pool w p c k out q) (hrow : w.ownsRow base 124 1 v n xs) (hg : (w.alloc o).grownBy w' v.ownBlock) : Pool w' p c k out q := by
  have hl := h.lt
  have hn := fun cur => h.no57 cur
  obtain ⟨hb, s, r, hc⟩ := h
  refine ⟨?_, s, r, ?_⟩
  · exact (hg.block p (by simp; omega) (fun e => own_ne hrow (fun cur => (hn cur).1) e.symm)).trans (hb.alloc o)
  · exact (hg.block c (by simp; omega) (fun e => own_ne hrow (fun cur => (hn cur).2) e.symm)).trans ((Below.heap_alloc w o c hl.2.1).trans hc)
/-- one of them, read out of the slice -/
theorem Toks.cell {base : Nat} {w : World} {p : Nat} {v : Value} {L : TL} (h : Toks base w p v L) (j : Nat) (x : Nat × Nat × Bool) (hj : L[j]? = some x) :
    ∃ g cap, v = .slice (some ⟨g, 0, none⟩) L.length cap ∧ w.cell? ⟨g, j, none⟩ = some (at0 x.1) := by
  obtain ⟨hjl, hjx⟩ := List.getElem?_eq_some_iff.1 hj
  have hr := h.row
  rcases hr.2 with ⟨_, h0⟩ | ⟨g, cap, cur, rfl, hg, _⟩
  · omega
  · refine ⟨g, cap, rfl, ?_⟩
    rw [hr.cellAt j (by omega), List.getElem?_map, hj]
    rfl
end Go.Proofs.Ytimhdegdmdilaaa
/- Copying, clearing and appending in a row of memory that is known whole, of elements of whatever size: laws of every program. -/
namespace Go.Proofs.Ytimhdegdmdilaaa
open Go.RowKit Go.Lib
set_option linter.unusedVariables false
set_option maxRecDepth 100000
set_option linter.unusedSimpArgs false
set_option linter.unnecessarySimpa false
set_option maxRecDepth 100000

/-- a row with some of its cells replaced -/
def over (cur : Array Value) (o : Nat) (vs : List Value) : Array Value := (splice cur.toList o vs).toArray
theorem over_size (cur : Array Value) (o : Nat) (vs : List Value) (h : o + vs.length ≤ cur.size) : (over cur o vs).size = cur.size := by
  unfold over; rw [List.size_toArray, length_splice _ _ _ (by simpa using h)]; simp
theorem Blk.row {w : World} {g : Nat} {t : TypeId} {cs : Array Value} (h : Blk w g t cs) (cs' : Array Value) : Blk (w.setRow g cs') g t cs' := setRow_heap w g cs cs' t (0, 0) h
theorem Keep.setRow {X : List Nat} {a w : World} (h : Keep X a w) {g : Nat} (hg : g ∈ X) (cs : Array Value) : Keep X a (w.setRow g cs) :=
  h.trans ⟨below_setRow (Below.refl _ _) (Nat.zero_le _) cs, fun i hi hx => setRow_other w g i cs (fun e => hx (e ▸ hg))⟩
theorem Keep.drew {X : List Nat} {a w : World} (h : Keep X a w) : Keep X a w.drew := ⟨h.all.drew, h.block⟩
theorem setCells_row (g : Nat) (t : TypeId) : ∀ (vs : List Value) (o : Nat) (cur : Array Value) (w : World), Blk w g t cur → o + vs.length ≤ cur.size → w.setCells g o vs = w.setRow g (over cur o vs)
  | [], o, cur, w, hg, _ => by
    have e : over cur o [] = cur := by unfold over splice; simp
    rw [e, setRow_self w g cur t (0, 0) hg]; rfl
  | v :: rest, o, cur, w, hg, hl => by
    have hi : o < cur.size := by simp at hl; omega
    have e1 : w.setCell ⟨g, o, none⟩ v = w.setRow g (cur.setIfInBounds o v) := setCell_eq_setRow w g o cur t (0, 0) v hg
    have ih := setCells_row g t rest (o + 1) (cur.setIfInBounds o v) (w.setRow g (cur.setIfInBounds o v)) (hg.row _) (by simp at hl ⊢; omega)
    rw [World.setCells, e1, ih, setRow_setRow]
    congr 1
    unfold over splice
    have e := list_seg_step cur.toList o v rest (by simp at hl ⊢; omega)
    congr 1
    simpa [Array.toList_setIfInBounds, Nat.add_assoc] using e
section
variable {P : Program}
theorem run_copyS (w : World) (dT sT ty elem : TypeId) (size g o dLen dCap : Nat) (a : Addr) (sLen sCap : Nat) (cur : Array Value) (t : TypeId) (cs : List Value)
    (hu : P.underlying dT = some (.slice elem)) (hs : (P.info? elem).map (·.size) = some size) (hg : Blk w g t cur) (hn : cs.length = Nat.min sLen dLen * size)
    (hsrc : ∀ j v, cs[j]? = some v → w.cell? (a.add j) = some v) (hfit : o + cs.length ≤ cur.size) (h1 : ∀ v ∈ cs, v.oneCell' = true) :
    (Builtin.copy_ #[dT, sT] ty #[.slice (some ⟨g, o, none⟩) dLen dCap, .slice (some a) sLen sCap]).run P w = .ok (goInt (Nat.min sLen dLen)) (w.setRow g (over cur o cs)) := by
  have hl := run_loadCells_list (P := P) w a cs hsrc
  have hst := run_storeCells_at P g o t cs 0 cur w hg (by simpa using hfit) h1
  have e : (cur.toList.take (o + 0) ++ cs ++ cur.toList.drop (o + 0 + cs.length)).toArray = over cur o cs := by unfold over splice; simp
  rw [e] at hst
  cases hq : P.info? elem with
  | none => simp [hq] at hs
  | some i =>
    have hi : i.size = size := by simpa [hq] using hs
    simp [Builtin.copy_, run_underlying hu, Builtin.lenOf, Builtin.firstCells, sizeOf, typeInfo, hq, hi, ← hn, hl, hst]
theorem run_clearS (w : World) (t e ty : TypeId) (z : Value) (ht : P.underlying t = some (.slice e)) (hv : ∀ w, (zeroValue e).run P w = .ok z w) (g o n c : Nat) (cur : Array Value) (te : TypeId) (hg : Blk w g te cur) (hn : 0 < n)
    (h1 : ∀ v ∈ (Builtin.zeroCells z.cells n).toList, v.oneCell' = true) (hfit : o + (Builtin.zeroCells z.cells n).toList.length ≤ cur.size) :
    (Builtin.clear_ #[t] ty #[.slice (some ⟨g, o, none⟩) n c]).run P w = .ok (.tuple #[]) (w.setRow g (over cur o (Builtin.zeroCells z.cells n).toList)) := by
  have hst := run_storeCells_at P g o te (Builtin.zeroCells z.cells n).toList 0 cur w hg (by simpa using hfit) h1
  have e : (cur.toList.take (o + 0) ++ (Builtin.zeroCells z.cells n).toList ++ cur.toList.drop (o + 0 + (Builtin.zeroCells z.cells n).toList.length)).toArray = over cur o (Builtin.zeroCells z.cells n).toList := by unfold over splice; simp
  rw [e] at hst
  obtain ⟨m, rfl⟩ : ∃ m, n = m + 1 := ⟨n - 1, by omega⟩
  simp [Builtin.clear_, run_underlying ht, hv, hst]
/-- a copy, its run known -/
theorem wpList_copyR (w : World) {ops : Array Oper} {rest : List Oper} {o : Oper} {a : Act} {Q : Exit → Act → World → Prop} (hgd : o.guard = none) (d s : Operand) (t t' : TypeId)
    (ho : o.op = .call { callee := .builtin .copy, args := #[d, s], argTypes := #[t, t'] }) (v u : Value) (hd : a.eval d = v) (hs : a.eval s = u) {v' : Value} {w' : World}
    (hr : (Builtin.copy_ #[t, t'] o.type #[v, u]).run P w = .ok v' w') (h : wpList P ops Q rest (a.put o.dst v') w') : wpList P ops Q (o :: rest) a w := by
  refine wpList_plain hgd fun K hK => ?_
  unfold Oper.wp
  simp [execOp, ho, resolve, invoke, builtin, hd, hs, hr, Result.andThen]
  exact hK _ _ h
/-- a copy in a region that draws -/
theorem step_copyR {ops : Array Oper} {o : Oper} {a : Act} {w : World} {K : Act → World → Prop} {Q : Exit → Act → World → Prop} {E : Prop} (hgd : o.guard = none) (d s : Operand) (t t' : TypeId)
    (ho : o.op = .call { callee := .builtin .copy, args := #[d, s], argTypes := #[t, t'] }) (v u : Value) (hd : a.eval d = v) (hs : a.eval s = u) {v' : Value} {w' : World}
    (hr : (Builtin.copy_ #[t, t'] o.type #[v, u]).run P w = .ok v' w') (hK : K (a.put o.dst v') w') : if Region.wanted o (yielded ops a.tmps) = true then Oper.wp P o a w K Q else E := by
  rw [if_pos (by simp [Region.wanted, hgd])]
  unfold Oper.wp
  simp [execOp, ho, resolve, invoke, builtin, hd, hs, hr, Result.andThen]
  exact hK
end
theorem addr_at (g off j : Nat) : (⟨g, off, none⟩ : Addr).add j = ⟨g, off + j, none⟩ := by unfold Addr.add; split <;> simp_all
/-- the cells of an owned row: those of its block -/
theorem own_blk {w : World} {base : Nat} {e : TypeId} {size n : Nat} {v : Value} {xs : List Value} (h : w.ownsRow base e size v n xs) (hn : 0 < n) :
    ∃ g cap cur, v = .slice (some ⟨g, 0, none⟩) n cap ∧ base ≤ g ∧ Blk w g e cur ∧ n ≤ cap ∧ cap ≤ maxLen ∧ cur.size = cap * size ∧ cur.toList.take (n * size) = xs := by
  rcases h.2 with ⟨_, h0⟩ | ⟨g, cap, cur, h1, h2, h3, h4⟩
  · omega
  · exact ⟨g, cap, cur, h1, h2, h3, h4⟩
end Go.Proofs.Ytimhdegdmdilaaa
/- slices.Delete of one element. -/
namespace Go.Proofs.Ytimhdegdmdilaaa
open Go.RowKit Go.Lib
set_option linter.unusedVariables false
set_option maxRecDepth 100000
set_option linter.unusedSimpArgs false
set_option linter.unnecessarySimpa false
set_option maxRecDepth 100000
theorem zc_kids : (Builtin.zeroCells (Value.cells (.pointer none)) 1).toList = [.pointer none] := by
  have e : Value.cells (.pointer none) = #[.pointer none] := by simp [Value.cells]
  rw [e]
  apply List.ext_getElem
  · simp [Builtin.zeroCells]
  · intro k h1 h2
    simp [Builtin.zeroCells] at h1
    match k, h1 with
    | 0, _ => simp [Builtin.zeroCells]
theorem over_take (X : Array Value) (o : Nat) (vs : List Value) (k : Nat) (h : o + vs.length = k) (ho : o ≤ X.size) : (over X o vs).toList.take k = X.toList.take o ++ vs := by
  unfold over splice
  rw [List.take_append, List.take_append, List.take_of_length_le (by simp; omega), List.take_of_length_le (l := vs) (by simp; omega), List.length_take, Array.length_toList, show min o X.size = o by omega, show k - o - vs.length = 0 by omega, List.take_zero, List.append_nil]
theorem over_take_le (X : Array Value) (o : Nat) (vs : List Value) (k : Nat) (h : k ≤ o) (ho : o ≤ X.size) : (over X o vs).toList.take k = X.toList.take k := by
  unfold over splice
  rw [List.take_append_of_le_length (by simp; omega), List.take_take, show min k o = k by omega]
theorem info30 : (Try.prog.info? 24).map (fun i => (i.zero, i.size, i.bytes)) = some (some (.pointer none), 1, 8) := by kernel_rfl

set_option maxRecDepth 100000 in
set_option maxHeartbeats 4000000 in
theorem del_kids (base i j n : Nat) (v : Value) (cs : List Value) (w : World) (h : w.ownsRow base 24 1 v n cs) (hi : i < n) (hij : Hid (j = i + 1)) (hn : n ≤ 1000) (h1 : ∀ u ∈ cs, u.oneCell' = true) :
    Calls Try.prog 105 #[v, .int .i64 i, .int .i64 j] w fun e w' => ∃ g cap, v = .slice (some ⟨g, 0, none⟩) n cap ∧ e = .returned (.slice (some ⟨g, 0, none⟩) (n - 1) cap) ∧ w'.ownsRow base 24 1 (.slice (some ⟨g, 0, none⟩) (n - 1) cap) (n - 1) (cs.take (i * 1) ++ cs.drop ((i + 1) * 1)) ∧ Keep [g] w w' := by
  obtain ⟨i0, hI, hz0, hz1, hz2⟩ := info_parts info30
  have hlen := h.1
  obtain ⟨g, cap, cur, rfl, hg, hB, hc, hcm, hs, ht⟩ := own_blk h (by omega)
  have hmx : cap ≤ 9223372036854775807 := by unfold maxLen at hcm; omega
  have hv23 : ∀ w, (zeroValue 24).run Try.prog w = .ok (.pointer none) w := fun w => by simp [zeroValue, typeInfo, hI, hz0]
  obtain ⟨m, hm⟩ : ∃ m, m = n - j := ⟨_, rfl⟩
  have hji := hij.out
  -- the cells that move
  obtain ⟨news, hnews⟩ : ∃ news, news = cs.drop (j * 1) := ⟨_, rfl⟩
  have hnl : news.length = m * 1 := by rw [hnews, List.length_drop, hlen, hm, Nat.sub_mul]
  have hcell : ∀ t u, news[t]? = some u → w.cell? ⟨g, j * 1 + t, none⟩ = some u := fun t u hu => by
    rw [hnews, List.getElem?_drop, ← ht, List.getElem?_take] at hu
    split at hu
    · rw [hB.cell]; rwa [Array.getElem?_toList] at hu
    · cases hu
  obtain ⟨A, hA, hsrc⟩ : ∃ A : Addr, (if cap = j then some (⟨g, 0, none⟩ : Addr) else some ⟨g, j * 1, none⟩) = some A ∧ Hid (∀ t u, news[t]? = some u → w.drew.cell? (A.add t) = some u) := by
    by_cases hcj : cap = j
    · refine ⟨⟨g, 0, none⟩, by simp [hcj], Lib.hid fun t u hu => ?_⟩
      have h0 : news.length = 0 := by rw [hnl, hm, show n - j = 0 by omega, Nat.zero_mul]
      rw [List.length_eq_zero_iff.1 h0] at hu
      simp at hu
    · refine ⟨⟨g, j * 1, none⟩, by simp [hcj], Lib.hid fun t u hu => ?_⟩
      rw [addr_at]
      exact hcell t u hu
  have hfit1 : i * 1 + news.length ≤ cur.size := by rw [hnl, hs, ← Nat.add_mul]; exact Nat.mul_le_mul_right _ (by omega)
  have hsp : Hid (∀ t, t < news.length → (w.drew.cell? ⟨g, 0 + i * 1 + t, none⟩).isSome = true ∧ w.drew.frozen? ⟨g, 0 + i * 1 + t, none⟩ = false) := Lib.hid fun t ht => by
    refine ⟨?_, hB.frozen _⟩
    show (w.cell? _).isSome = true
    rw [hB.cell, Nat.zero_add, Array.getElem?_eq_getElem (by omega)]; rfl
  have h1n : Hid (∀ u ∈ news, u.oneCell' = true) := Lib.hid fun u hu => h1 u (by rw [hnews] at hu; exact List.mem_of_mem_drop hu)
  -- the world behind the append
  obtain ⟨W1, hW1⟩ : ∃ W1, W1 = w.drew.setCells g (0 + i * 1) news := ⟨_, rfl⟩
  have hW1r : W1 = w.drew.setRow g (over cur (i * 1) news) := by rw [hW1, Nat.zero_add]; exact setCells_row g 24 news _ cur w.drew hB hfit1
  have hB1 : Blk W1 g 24 (over cur (i * 1) news) := by rw [hW1r]; exact Blk.row (w := w.drew) hB _
  have hK1 : Keep [g] w W1 := by rw [hW1r]; exact (Keep.refl [g] w).drew.setRow (by simp) _
  obtain ⟨zs, hzs⟩ : ∃ zs, zs = (Builtin.zeroCells (Value.cells (.pointer none)) 1).toList := ⟨_, rfl⟩
  have hzl : zs.length = 1 := by rw [hzs, zc_kids]; rfl
  have hos := over_size cur (i * 1) news hfit1
  have hfit2 : (i + m) * 1 + zs.length ≤ (over cur (i * 1) news).size := by rw [hos, hzl, hs]; omega
  obtain ⟨R2, hR2⟩ : ∃ R2, R2 = over (over cur (i * 1) news) ((i + m) * 1) zs := ⟨_, rfl⟩
  have hcl : ∀ ty c, (Builtin.clear_ #[86] ty #[.slice (some ⟨g, i + m, none⟩) 1 c]).run Try.prog W1 = .ok (.tuple #[]) (W1.setRow g R2) := fun ty c => by
    have ea : (⟨g, i + m, none⟩ : Addr) = ⟨g, (i + m) * 1, none⟩ := by rw [Nat.mul_one]
    rw [ea]
    rw [hR2, hzs]
    exact run_clearS W1 86 24 ty _ Try.underlying86 hv23 g _ 1 c _ 24 hB1 (by decide) (by intro u hu; rw [zc_kids] at hu; simp at hu; subst hu; rfl) (by rw [← hzs]; exact hfit2)
  have HW1 := Lib.hid hW1
  have e1 : n - (i + m) = 1 := by omega
  have e2 : i + (n - j) = i + m := by omega
  have hic : i ≤ cap := by omega
  have hjc : j ≤ cap := by omega
  have hjn : j ≤ n := by omega
  have hne : ¬ ((i : Int) = (j : Int)) := by omega
  have HT := Lib.hid ht
  have HR2 := Lib.hid hR2
  have HN := Lib.hid hnews
  have HL := Lib.hid hlen
  clear hW1 hW1r hcell hji hnews hv23 hlen hzs hB ht hR2
  have mixed : Try.prog.follows .mixedOrders = true := by kernel_rfl
  simp only [Nat.mul_one] at hA
  go_enter Try.func105, Try.ntmps105
  go_wp2_with fail
  go_region_law_o (refine step_append_room rfl (.tmp 22) (.tmp 25) 86 rfl 24 i0 1 Try.underlying86 hI hz1 g 0 i cap (by simp [Act.eval, Act.put]) A (n - j) (cap - j) news (by simp [Act.eval, Act.put, hA]) (by rw [hnl, hm]) hsrc.out h1n.out (by omega) hsp.out ?_; rw [← HW1.out])
  clear hsrc hsp h1n HW1 hA
  go_wp2_with fail
  go_ret
  refine ⟨g, cap, rfl, by rw [show n - 1 = i + m by omega]; rfl, ?_, hK1.setRow (by simp) _⟩
  have hj2 := hij.out
  refine ⟨?_, .inr ⟨g, cap, _, rfl, hg, hB1.row _, by omega, hcm, by rw [HR2.out, over_size _ _ _ hfit2, hos, hs], ?_⟩⟩
  · rw [List.length_append, List.length_take, List.length_drop, HL.out]; omega
  · rw [HR2.out, show n - 1 = i + m by omega, over_take_le _ _ _ _ (Nat.le_refl _) (by omega), over_take _ _ _ _ (by rw [hnl]; omega) (by omega), ← hj2, ← HN.out, ← HT.out, List.take_take, show min (i * 1) (n * 1) = i * 1 by omega]
end Go.Proofs.Ytimhdegdmdilaaa
/- slices.Insert into a row that is known whole. -/
namespace Go.Proofs.Ytimhdegdmdilaaa
open Go.RowKit Go.Lib
set_option linter.unusedVariables false
set_option maxRecDepth 100000
set_option linter.unusedSimpArgs false
set_option linter.unnecessarySimpa false
set_option maxRecDepth 100000
theorem over_drop (X : Array Value) (o : Nat) (vs : List Value) (h : o + vs.length ≤ X.size ∨ o ≤ X.size) : (over X o vs).toList.drop (o + vs.length) = X.toList.drop (o + vs.length) := by
  unfold over splice
  have ho : o ≤ X.size := by omega
  rw [List.drop_append, List.drop_append, List.drop_of_length_le (by simp; omega), List.drop_of_length_le (l := vs) (by simp; omega), List.length_take, show min o X.toList.length = o by simp; omega, show o + vs.length - o - vs.length = 0 by omega, List.drop_zero, List.nil_append, List.nil_append]
theorem over_mid (X : Array Value) (o : Nat) (vs : List Value) (k : Nat) (h : k = vs.length) (hf : o + k ≤ X.size) : ((over X o vs).toList.drop o).take k = vs := by
  unfold over splice
  rw [List.drop_append, List.drop_of_length_le (by simp; omega), List.length_take, Array.length_toList, show min o X.size = o by omega, Nat.sub_self, List.drop_zero, List.nil_append, List.take_append_of_le_length (by omega), List.take_of_length_le (by omega)]
theorem zsz_kids : (Value.cells (.pointer none)).size = 1 := by simp [Value.cells]

/-- what slices.Insert leaves -/
def InsPost30 (base i n m : Nat) (v : Value) (cs el : List Value) (w : World) (e : Ending) (w' : World) : Prop :=
  ∃ v', e = .returned v' ∧ w'.ownsRow base 24 1 v' (n + m) (cs.take (i * 1) ++ (el ++ cs.drop (i * 1))) ∧ (v'.ownBlock = v.ownBlock ∨ v'.ownBlock = some w.heap.size) ∧ Keep v.ownBlock.toList w w'
set_option maxRecDepth 100000 in
set_option maxHeartbeats 4000000 in
theorem ins_kids_shift (base i n m vb : Nat) (v : Value) (cs el : List Value) (w : World) (h : w.ownsRow base 24 1 v n cs) (hi : i < n) (hm : 0 < m) (hn : n + m ≤ 1000) (h1 : ∀ u ∈ cs, u.oneCell' = true) (h1e : ∀ u ∈ el, u.oneCell' = true)
    (hv : Blk w vb 24 el.toArray) (hel : el.length = m * 1) (hne : v.ownBlock ≠ some vb) (g cap : Nat) (hvv : v = .slice (some ⟨g, 0, none⟩) n cap) (hroom : n + m ≤ cap) :
    Calls Try.prog 100 #[v, .int .i64 i, .slice (some ⟨vb, 0, none⟩) m m] w (InsPost30 base i n m v cs el w) := by
  obtain ⟨i0, hI, hz0, hz1, hz2⟩ := info_parts info30
  have hlen := h.1
  obtain ⟨g', cap', cur, hv', hg, hB, hc, hcm, hs, ht⟩ := own_blk h (by omega)
  subst hvv
  simp only [Value.slice.injEq, Option.some.injEq, Addr.mk.injEq, and_true, true_and] at hv'
  obtain ⟨rfl, rfl⟩ := hv'
  have hvg : vb ≠ g := fun e => hne (by rw [e]; rfl)
  have hmx : cap ≤ 9223372036854775807 := by unfold maxLen at hcm; omega
  have hsz : (Try.prog.info? 24).map (·.size) = some 1 := by rw [hI]; simp [hz1]
  have hsz' : ∀ w, (Go.sizeOf 24).run Try.prog w = .ok 1 w := fun w => by simp [sizeOf, typeInfo, hI, hz1]
  have hq1 : ¬ ((m : Int) = 0) := by omega
  have hq2 : ¬ ((i : Int) = (n : Int)) := by omega
  have hov : ∀ lb cb, (callFunc 114 #[.slice (some ⟨vb, 0, none⟩) m m, .slice (some ⟨g, (i + m), none⟩) lb cb]).run Try.prog w = .ok (.value (.bool false)) w := fun lb cb => by
    have hshv : w.shape? vb = some (24, el.toArray.size) := by have h' := hv; unfold Blk at h'; simp [World.shape?, h']
    have hshg : w.shape? g = some (24, cur.size) := by have h' := hB; unfold Blk at h'; simp [World.shape?, h']
    rw [run_callFunc_extern Try.func114 (by kernel_rfl) (by kernel_rfl) (by kernel_rfl) (e := Extern.SlicesOverlaps.overlaps #[86, 86] #[4]) (by kernel_rfl),
      Lib.run_overlaps_apart w 86 4 24 Try.underlying86 1 hsz' ⟨vb, 0, none⟩ ⟨g, (i + m), none⟩ m m lb cb hvg _ _ _ _ hshv hshg (by rw [hs]; omega) (hv.frozen _) (hv.frozen _)]
    rfl
  obtain ⟨D, hD⟩ : ∃ D, D = cs.drop (i * 1) := ⟨_, rfl⟩
  have hDl : D.length = (n - i) * 1 := by rw [hD, List.length_drop, hlen, Nat.sub_mul]
  have hDc : ∀ j u, D[j]? = some u → w.cell? ⟨g, i * 1 + j, none⟩ = some u := fun j u hu => by
    rw [hD, List.getElem?_drop, ← ht, List.getElem?_take] at hu
    split at hu
    · rw [hB.cell]; rwa [Array.getElem?_toList] at hu
    · cases hu
  have hf1 : (i + m) * 1 + D.length ≤ cur.size := by rw [hDl, hs, ← Nat.add_mul]; exact Nat.mul_le_mul_right _ (by omega)
  obtain ⟨R1, hR1⟩ : ∃ R1, R1 = over cur ((i + m) * 1) D := ⟨_, rfl⟩
  have hR1s : R1.size = cur.size := by rw [hR1]; exact over_size _ _ _ hf1
  have hcp1 : ∀ ty dc sc, (Builtin.copy_ #[86, 86] ty #[.slice (some ⟨g, (i + m), none⟩) (n + m - (i + m)) dc, .slice (some ⟨g, (i), none⟩) (n + m - i) sc]).run Try.prog w.drew = .ok (goInt ((n - i : Nat) : Int)) (w.drew.setRow g R1) := fun ty dc sc => by
    have e := run_copyS (P := Try.prog) w.drew 86 86 ty 24 1 g ((i + m) * 1) (n + m - (i + m)) dc ⟨g, i * 1, none⟩ (n + m - i) sc cur 24 D Try.underlying86 hsz hB
      (by rw [hDl]; congr 1; simp only [Nat.min_def]; split <;> omega) (fun j u hu => by rw [addr_at]; exact hDc j u hu) hf1 (fun u hu => h1 u (by rw [hD] at hu; exact List.mem_of_mem_drop hu))
    rw [show Nat.min (n + m - i) (n + m - (i + m)) = n - i by simp only [Nat.min_def]; split <;> omega, ← hR1] at e
    simpa only [Nat.mul_one] using e
  have hB1 : Blk (w.drew.setRow g R1) g 24 R1 := Blk.row (w := w.drew) hB _
  have hK1 : Keep [g] w (w.drew.setRow g R1) := (Keep.refl [g] w).drew.setRow (by simp) _
  have hv1 : Blk (w.drew.setRow g R1) vb 24 el.toArray := hv.keep hK1 (by simpa using hvg)
  have hf2 : i * 1 + el.length ≤ R1.size := by rw [hel, hR1s, hs, ← Nat.add_mul]; exact Nat.mul_le_mul_right _ (by omega)
  obtain ⟨R2, hR2⟩ : ∃ R2, R2 = over R1 (i * 1) el := ⟨_, rfl⟩
  have hR2s : R2.size = cur.size := by rw [hR2, over_size _ _ _ hf2]; exact hR1s
  obtain ⟨W1, hW1⟩ : ∃ W1, W1 = w.drew.setRow g R1 := ⟨_, rfl⟩
  rw [← hW1] at hB1 hK1 hv1 hcp1
  have hcp2 : ∀ ty dc, (Builtin.copy_ #[86, 86] ty #[.slice (some ⟨g, (i), none⟩) (n + m - i) dc, .slice (some ⟨vb, 0, none⟩) m m]).run Try.prog W1 = .ok (goInt m) (W1.setRow g R2) := fun ty dc => by
    have e := run_copyS (P := Try.prog) W1 86 86 ty 24 1 g (i * 1) (n + m - i) dc ⟨vb, 0, none⟩ m m R1 24 el Try.underlying86 hsz hB1
      (by rw [hel]; congr 1; simp only [Nat.min_def]; split <;> omega) (fun j u hu => by rw [addr_at, Nat.zero_add, hv1.cell]; simpa using hu) hf2 h1e
    rw [show Nat.min m (n + m - i) = m by simp only [Nat.min_def]; split <;> omega, ← hR2] at e
    simpa only [Nat.mul_one] using e
  have hw1 : IntKind.i64.wrap ((i : Int) + (m : Int)) = (i : Int) + (m : Int) := IntWalk.i64_in _ (by omega)
  have hb1 : (0 : Int) ≤ (i : Int) + (m : Int) := by omega
  have hin : i ≤ n := by omega
  have htn : ((i : Int) + (m : Int)).toNat = i + m := by omega
  have hb2 : ¬ (cap = i + m) := by omega
  have hb3 : (i : Int) ≤ (n : Int) + (m : Int) := by omega
  have hb4 : ¬ (cap = i) := by omega
  have HT := Lib.hid ht
  have HD := Lib.hid hD
  have HL := Lib.hid hlen
  have HR1 := Lib.hid hR1
  have HR2 := Lib.hid hR2
  have HS := Lib.hid hs
  have HE := Lib.hid hel
  have HDL := Lib.hid hDl
  clear hW1 hR1 hR2 hD ht hlen hsz hsz' hDc hs hB hv hv1 h hne hel hDl
  have mixed : Try.prog.follows .mixedOrders = true := by kernel_rfl
  go_enter Try.func100, Try.ntmps100
  go_wp2_with (simp only [hov])
  go_region_law_o (refine step_copyR rfl _ _ 86 86 rfl _ _ (by simp [Act.eval, Act.put]) (by simp [Act.eval, Act.put]) (hcp1 _ _ _) ?_)
  go_wp2_with (refine wpList_copyR _ rfl _ _ 86 86 rfl _ _ rfl rfl (hcp2 _ _) ?_)
  go_ret
  refine ⟨.slice (some ⟨g, 0, none⟩) (n + m) cap, rfl, ⟨?_, .inr ⟨g, cap, R2, rfl, hg, hB1.row R2, hroom, hcm, by rw [hR2s, HS.out], ?_⟩⟩, .inl rfl, hK1.setRow (by simp) _⟩
  · rw [List.length_append, List.length_append, List.length_take, List.length_drop, HL.out, HE.out]; omega
  · have e1 : R2.toList.take (i * 1 + el.length) = R1.toList.take (i * 1) ++ el := by rw [HR2.out]; exact over_take _ _ _ _ rfl (by rw [hR1s, HS.out]; omega)
    have e2 : R2.toList.take ((n + m) * 1) = R2.toList.take (i * 1 + el.length) ++ (R2.toList.drop (i * 1 + el.length)).take ((n - i) * 1) := by
      rw [← List.take_add, HE.out]; congr 1; omega
    have e3 : R2.toList.drop (i * 1 + el.length) = R1.toList.drop (i * 1 + el.length) := by rw [HR2.out]; exact over_drop _ _ _ (by omega)
    have e4 : (R1.toList.drop (i * 1 + el.length)).take ((n - i) * 1) = D := by
      rw [HR1.out, HE.out, ← Nat.add_mul]; exact over_mid _ _ _ _ HDL.out.symm (by rw [HDL.out] at hf1; omega)
    have e5 : R1.toList.take (i * 1) = cs.take (i * 1) := by
      rw [HR1.out, over_take_le _ _ _ _ (by omega) (by omega), ← HT.out, List.take_take, show min (i * 1) (n * 1) = i * 1 by omega]
    rw [e2, e3, e4, e1, e5, HD.out, List.append_assoc]
set_option maxRecDepth 100000 in
set_option maxHeartbeats 4000000 in
theorem ins_kids_grow (base i n m vb : Nat) (v : Value) (cs el : List Value) (w : World) (h : w.ownsRow base 24 1 v n cs) (hi : i < n) (hm : 0 < m) (hn : n + m ≤ 1000) (h1 : ∀ u ∈ cs, u.oneCell' = true) (h1e : ∀ u ∈ el, u.oneCell' = true)
    (hv : Blk w vb 24 el.toArray) (hel : el.length = m * 1) (hbase : base ≤ w.heap.size) (g cap : Nat) (hvv : v = .slice (some ⟨g, 0, none⟩) n cap) (hroom : cap < n + m) :
    Calls Try.prog 100 #[v, .int .i64 i, .slice (some ⟨vb, 0, none⟩) m m] w (InsPost30 base i n m v cs el w) := by
  obtain ⟨i0, hI, hz0, hz1, hz2⟩ := info_parts info30
  have hlen := h.1
  obtain ⟨g', cap', cur, hv', hg, hB, hc, hcm, hs, ht⟩ := own_blk h (by omega)
  subst hvv
  simp only [Value.slice.injEq, Option.some.injEq, Addr.mk.injEq, and_true, true_and] at hv'
  obtain ⟨rfl, rfl⟩ := hv'
  have hsz : (Try.prog.info? 24).map (·.size) = some 1 := by rw [hI]; simp [hz1]
  have hq1 : ¬ ((m : Int) = 0) := by omega
  have hq2 : ¬ ((i : Int) = (n : Int)) := by omega
  have hq3 : (cap : Int) < (n : Int) + (m : Int) := by omega
  have hkk : (n : Int) + (m : Int) - (i : Int) = ((n + m - i : Nat) : Int) := by omega
  have hik : i + (n + m - i) = n + m := by omega
  have hcc : ∀ j u, cs[j]? = some u → w.cell? ⟨g, j, none⟩ = some u := fun j u hu => by
    rw [← ht, List.getElem?_take] at hu
    split at hu
    · rw [hB.cell]; rwa [Array.getElem?_toList] at hu
    · cases hu
  have hold : (Builtin.firstCells i0.size i (.slice (some ⟨g, 0, none⟩) i cap)).run Try.prog w.drew = .ok (cs.take (i * 1)).toArray w.drew := by
    rw [hz1]
    refine run_firstCells_some w.drew 1 i ⟨g, 0, none⟩ i cap (cs.take (i * 1)) (by rw [List.length_take, hlen]; omega) (fun j u hj => ?_)
    rw [addr_at, Nat.zero_add]
    rw [List.getElem?_take] at hj
    split at hj
    · exact hcc j u hj
    · cases hj
  have hrz : ∀ ty, (Builtin.append_ #[86, 3] ty #[.slice (some ⟨g, 0, none⟩) i cap, .int .i64 ((n : Int) + (m : Int) - (i : Int))]).run Try.prog w =
      .ok (.slice (some ⟨w.heap.size, 0, none⟩) (n + m) (grownCap w (n + m) cap 24)) (w.drew.alloc (.cells ((cs.take (i * 1)).toArray ++ Builtin.zeroCells (Value.cells (.pointer none)) (n + m - i) ++ Builtin.zeroCells (Value.cells (.pointer none)) (grownCap w (n + m) cap 24 - (n + m))) 24)) := fun ty => by
    have h := Lib.run_append_grow_zeros (P := Try.prog) w 86 3 ty 24 i0 _ .i64 .i64 Try.underlying86 Try.underlying3 hI hz0 (some ⟨g, 0, none⟩) i cap (cs.take (i * 1)) hold (n + m - i) (by omega) (by omega) (by omega) (by omega) (by rw [hz2]; omega) (by rw [hz2, hik]; exact growslice_fits hroom (by omega))
    rw [hik] at h
    rw [hkk]
    exact h
  have hcg := grownCap_ge w (n + m) cap 24
  have hcgm := grownCap_le_maxLen w (n + m) cap 24 (by unfold maxLen; omega)
  generalize grownCap w (n + m) cap 24 = G at *
  obtain ⟨ROW, hROW⟩ : ∃ ROW : Array Value, ROW = (cs.take (i * 1)).toArray ++ Builtin.zeroCells (Value.cells (.pointer none)) (n + m - i) ++ Builtin.zeroCells (Value.cells (.pointer none)) (G - (n + m)) := ⟨_, rfl⟩
  rw [← hROW] at hrz
  have hRs : ROW.size = G * 1 := by
    rw [hROW, Array.size_append, Array.size_append, List.size_toArray, List.length_take, hlen]
    simp only [Builtin.zeroCells, Array.size_map, Array.size_range, zsz_kids]
    omega
  have hRt : ROW.toList.take (i * 1) = cs.take (i * 1) := by
    have e : ROW.toList = cs.take (i * 1) ++ ((Builtin.zeroCells (Value.cells (.pointer none)) (n + m - i)).toList ++ (Builtin.zeroCells (Value.cells (.pointer none)) (G - (n + m))).toList) := by rw [hROW]; simp
    rw [e, List.take_append_of_le_length (by rw [List.length_take, hlen]; omega), List.take_take, Nat.min_self]
  obtain ⟨N, hN⟩ : ∃ N, N = w.heap.size := ⟨_, rfl⟩
  rw [← hN] at hrz hbase
  obtain ⟨W1, hW1⟩ : ∃ W1, W1 = w.drew.alloc (.cells ROW 24) := ⟨_, rfl⟩
  have hBN : Blk W1 N 24 ROW := by rw [hW1, hN]; exact Blk.new w.drew 24 ROW
  have hK0 : Keep [N] w W1 := by rw [hW1]; exact (Keep.refl [N] w).drew.alloc _
  have hbl := hB.lt
  have hvl := hv.lt
  have hB1 : Blk W1 g 24 cur := hB.keep hK0 (by simp; omega)
  have hv1 : Blk W1 vb 24 el.toArray := hv.keep hK0 (by simp; omega)
  obtain ⟨D, hD⟩ : ∃ D, D = cs.drop (i * 1) := ⟨_, rfl⟩
  have hDl : D.length = (n - i) * 1 := by rw [hD, List.length_drop, hlen, Nat.sub_mul]
  obtain ⟨R1, hR1⟩ : ∃ R1, R1 = over ROW (i * 1) el := ⟨_, rfl⟩
  have hf1 : i * 1 + el.length ≤ ROW.size := by rw [hel, hRs, ← Nat.add_mul]; exact Nat.mul_le_mul_right _ (by omega)
  have hR1s : R1.size = ROW.size := by rw [hR1]; exact over_size _ _ _ hf1
  have hf2 : (i + m) * 1 + D.length ≤ R1.size := by rw [hDl, hR1s, hRs, ← Nat.add_mul]; exact Nat.mul_le_mul_right _ (by omega)
  obtain ⟨R2, hR2⟩ : ∃ R2, R2 = over R1 ((i + m) * 1) D := ⟨_, rfl⟩
  have hR2s : R2.size = ROW.size := by rw [hR2, over_size _ _ _ hf2]; exact hR1s
  have hcpA : ∀ (W : World), W.heap = W1.heap → ∀ ty dc, (Builtin.copy_ #[86, 86] ty #[.slice (some ⟨N, (i), none⟩) (n + m - i) dc, .slice (some ⟨vb, 0, none⟩) m m]).run Try.prog W = .ok (goInt m) (W.setRow N R1) := fun W hW ty dc => by
    have hbn : Blk W N 24 ROW := by unfold Blk; rw [hW]; exact hBN
    have hbv : Blk W vb 24 el.toArray := by unfold Blk; rw [hW]; exact hv1
    have e := run_copyS (P := Try.prog) W 86 86 ty 24 1 N (i * 1) (n + m - i) dc ⟨vb, 0, none⟩ m m ROW 24 el Try.underlying86 hsz hbn
      (by rw [hel]; congr 1; simp only [Nat.min_def]; split <;> omega) (fun j u hu => by rw [addr_at, Nat.zero_add, hbv.cell]; simpa using hu) hf1 h1e
    rw [show Nat.min m (n + m - i) = m by simp only [Nat.min_def]; split <;> omega, ← hR1] at e
    simpa only [Nat.mul_one] using e
  have hcpB : ∀ (W : World), W.heap = (W1.setRow N R1).heap → ∀ ty dc sc, (Builtin.copy_ #[86, 86] ty #[.slice (some ⟨N, (i + m), none⟩) (n + m - (i + m)) dc, .slice (some ⟨g, (i), none⟩) (n - i) sc]).run Try.prog W = .ok (goInt ((n - i : Nat) : Int)) (W.setRow N R2) := fun W hW ty dc sc => by
    have hbn : Blk W N 24 R1 := by unfold Blk; rw [hW]; exact hBN.row R1
    have hbg : Blk W g 24 cur := by unfold Blk; rw [hW]; exact hB1.keep ((Keep.refl [N] W1).setRow (by simp) R1) (by simp; omega)
    have e := run_copyS (P := Try.prog) W 86 86 ty 24 1 N ((i + m) * 1) (n + m - (i + m)) dc ⟨g, i * 1, none⟩ (n - i) sc R1 24 D Try.underlying86 hsz hbn
      (by rw [hDl]; congr 1; simp only [Nat.min_def]; split <;> omega) (fun j u hu => by
        rw [addr_at, hbg.cell]
        rw [hD, List.getElem?_drop] at hu
        have := hcc _ u hu
        rwa [hB.cell] at this) hf2 (fun u hu => h1 u (by rw [hD] at hu; exact List.mem_of_mem_drop hu))
    rw [show Nat.min (n - i) (n + m - (i + m)) = n - i by simp only [Nat.min_def]; split <;> omega, ← hR2] at e
    simpa only [Nat.mul_one] using e
  have hG63 : G ≤ 9223372036854775807 := by unfold maxLen at hcgm; omega
  have hGi : ¬ (G = i) := by omega
  have hGim : ¬ (G = i + m) := by omega
  have hci : ¬ (cap = i) := by omega
  have hw1 : IntKind.i64.wrap ((i : Int) + (m : Int)) = (i : Int) + (m : Int) := IntWalk.i64_in _ (by omega)
  have hb1 : (0 : Int) ≤ (i : Int) + (m : Int) := by omega
  have hin : i ≤ n := by omega
  have htn : ((i : Int) + (m : Int)).toNat = i + m := by omega
  have hb3 : (i : Int) ≤ (n : Int) := by omega
  have HBe : Below w.heap.size w W1 := by rw [hW1]; exact ((Below.refl _ w).drew).alloc (Nat.le_refl _) _
  have HN := Lib.hid hN
  have HD := Lib.hid hD
  have HL := Lib.hid hlen
  have HR1 := Lib.hid hR1
  have HR2 := Lib.hid hR2
  have HRS := Lib.hid hRs
  have HRT := Lib.hid hRt
  have HE := Lib.hid hel
  have HDL := Lib.hid hDl
  have hE1 : ((w.alloc (.cells ROW 24)).drew).heap = W1.heap := by rw [hW1]; rfl
  have hE2 : (((w.alloc (.cells ROW 24)).drew.setRow N R1).drew).heap = (W1.setRow N R1).heap := by rw [hW1]; rfl
  have hE3 : (((w.alloc (.cells ROW 24)).drew.setRow N R1).drew.setRow N R2).heap = ((W1.setRow N R1).setRow N R2).heap := by rw [hW1]; rfl
  have HW1 := Lib.hid hW1
  rw [hW1] at hcpA hcpB hE1 hE2
  have HE3 := Lib.hid hE3
  clear hkk hik hold hROW hRt hRs hN hD hlen hR1 hR2 hel hDl hW1 hv1 hB1 hB hv ht hs h hcc hsz hE3
  have mixed : Try.prog.follows .mixedOrders = true := by kernel_rfl
  go_enter Try.func100, Try.ntmps100
  go_wp2_with (first
    | (at_builtin; refine Lib.wpList_append_run _ rfl _ _ _ _ rfl _ _ rfl rfl _ _ (hrz _) ?_)
    | (refine wpList_copyR _ rfl _ _ 86 86 rfl _ _ rfl rfl (hcpA _ hE1 _ _) ?_))
  go_region_law_o (refine step_copyR rfl _ _ 86 86 rfl (.slice (some ⟨N, (i + m), none⟩) (n + m - (i + m)) (G - (i + m))) (.slice (some ⟨g, (i), none⟩) (n - i) (cap - i)) (by simp [Act.eval, Act.put]) (by simp [Act.eval, Act.put]) (hcpB _ hE2 3 (G - (i + m)) (cap - i)) ?_)
  go_wp2_with fail
  go_ret
  refine ⟨.slice (some ⟨N, 0, none⟩) (n + m) G, rfl, ⟨?_, .inr ⟨N, G, R2, rfl, hbase, ?_, hcg, hcgm, by rw [hR2s, HRS.out], ?_⟩⟩, .inr (by rw [← HN.out]; rfl), Keep.of_below (below_setRow ((below_setRow (((Below.refl w.heap.size w).alloc (Nat.le_refl _) _).drew) (by rw [HN.out]; exact Nat.le_refl _) _).drew) (by rw [HN.out]; exact Nat.le_refl _) _)⟩
  · rw [List.length_append, List.length_append, List.length_take, List.length_drop, HL.out, HE.out]; omega
  · have hb : Blk ((W1.setRow N R1).setRow N R2) N 24 R2 := (hBN.row R1).row R2
    unfold Blk at hb
    rw [← HE3.out] at hb
    exact hb
  · have e1 : R2.toList.take ((n + m) * 1) = R1.toList.take ((i + m) * 1) ++ D := by
      rw [HR2.out]; exact over_take _ _ _ _ (by rw [HDL.out, ← Nat.add_mul]; congr 1; omega) (by rw [hR1s, HRS.out]; exact Nat.mul_le_mul_right _ (by omega))
    have e2 : R1.toList.take ((i + m) * 1) = ROW.toList.take (i * 1) ++ el := by
      rw [HR1.out]; exact over_take _ _ _ _ (by rw [HE.out, ← Nat.add_mul]) (by rw [HRS.out]; exact Nat.mul_le_mul_right _ (by omega))
    rw [e1, e2, HRT.out, HD.out, List.append_assoc]
set_option maxRecDepth 100000 in
set_option maxHeartbeats 4000000 in
theorem ins_kids_end (base n m vb : Nat) (v : Value) (cs el : List Value) (w : World) (h : w.ownsRow base 24 1 v n cs) (hm : 0 < m) (hn : n + m ≤ 1000) (h1e : ∀ u ∈ el, u.oneCell' = true)
    (hv : Blk w vb 24 el.toArray) (hel : el.length = m * 1) (hbase : base ≤ w.heap.size) :
    Calls Try.prog 100 #[v, .int .i64 n, .slice (some ⟨vb, 0, none⟩) m m] w (InsPost30 base n n m v cs el w) := by
  obtain ⟨i0, hI, hz0, hz1, hz2⟩ := info_parts info30
  have hq1 : ¬ ((m : Int) = 0) := by omega
  have hlen := Lib.hid h.1
  have hge := own_ge h
  obtain ⟨A, cap, hvv, hcap⟩ : ∃ A cap, v = .slice A n cap ∧ n ≤ cap := by
    rcases h.2 with ⟨h1, h2⟩ | ⟨g, cap, cur, h1, _, _, h3, _⟩
    · exact ⟨none, 0, by rw [h1, h2], by omega⟩
    · exact ⟨_, cap, h1, h3⟩
  have hcv : ∀ j u, el[j]? = some u → w.cell? ((⟨vb, 0, none⟩ : Addr).add j) = some u := fun j u hu => by rw [addr_at, Nat.zero_add, hv.cell]; simpa using hu
  subst hvv
  clear hv
  by_cases hcn : cap = n
  · subst hcn
    go_enter Try.func100, Try.ntmps100
    go_wp2_with (at_builtin; refine wpList_append_own_at _ rfl _ _ 86 rfl base 24 i0 _ 1 8 Try.underlying86 hI hz0 hz1 hz2 zsz_kids (by decide) (.slice A cap cap) cap cs rfl h ⟨vb, 0, none⟩ m m el rfl hel hcv h1e (by unfold maxLen; omega) (by omega) hbase ?_; intro v' wa hown' hgrow hnil hat)
    go_ret
    refine ⟨v', rfl, ?_, hat, ⟨⟨hgrow.os, hgrow.tape, hgrow.output, hgrow.size, fun i hi => by omega⟩, fun i hi hx => hgrow.block i hi (fun e => hx (by rw [← e]; simp))⟩⟩
    rw [List.take_of_length_le (by rw [hlen.out]; exact Nat.le_refl _), List.drop_of_length_le (by rw [hlen.out]; exact Nat.le_refl _), List.append_nil]
    exact hown'
  · go_enter Try.func100, Try.ntmps100
    go_wp2_with (at_builtin; refine wpList_append_own_at _ rfl _ _ 86 rfl base 24 i0 _ 1 8 Try.underlying86 hI hz0 hz1 hz2 zsz_kids (by decide) (.slice A n cap) n cs rfl h ⟨vb, 0, none⟩ m m el rfl hel hcv h1e (by unfold maxLen; omega) (by omega) hbase ?_; intro v' wa hown' hgrow hnil hat)
    go_ret
    refine ⟨v', rfl, ?_, hat, ⟨⟨hgrow.os, hgrow.tape, hgrow.output, hgrow.size, fun i hi => by omega⟩, fun i hi hx => hgrow.block i hi (fun e => hx (by rw [← e]; simp))⟩⟩
    rw [List.take_of_length_le (by rw [hlen.out]; exact Nat.le_refl _), List.drop_of_length_le (by rw [hlen.out]; exact Nat.le_refl _), List.append_nil]
    exact hown'
theorem ins_kids (base i n m vb : Nat) (v : Value) (cs el : List Value) (w : World) (h : w.ownsRow base 24 1 v n cs) (hi : i ≤ n) (hm : 0 < m) (hn : n + m ≤ 1000) (h1 : ∀ u ∈ cs, u.oneCell' = true) (h1e : ∀ u ∈ el, u.oneCell' = true)
    (hv : Blk w vb 24 el.toArray) (hel : el.length = m * 1) (hbase : base ≤ w.heap.size) (hne : v.ownBlock ≠ some vb) :
    Calls Try.prog 100 #[v, .int .i64 i, .slice (some ⟨vb, 0, none⟩) m m] w (InsPost30 base i n m v cs el w) := by
  rcases Nat.lt_or_eq_of_le hi with hlt | rfl
  · obtain ⟨g, cap, cur, hvv, hg, hB, hc, hcm, hs, ht⟩ := own_blk h (by omega)
    rcases Nat.lt_or_ge cap (n + m) with hr | hr
    · exact ins_kids_grow base i n m vb v cs el w h hlt hm hn h1 h1e hv hel hbase g cap hvv hr
    · exact ins_kids_shift base i n m vb v cs el w h hlt hm hn h1 h1e hv hel hne g cap hvv hr
  · exact ins_kids_end base i m vb v cs el w h hm hn h1e hv hel hbase
end Go.Proofs.Ytimhdegdmdilaaa
/- Rows of children: kcs, OwnK, slices.Clone of children. -/
namespace Go.Proofs.Ytimhdegdmdilaaa
open Go.RowKit Go.Lib
set_option linter.unusedVariables false
set_option maxRecDepth 100000
set_option linter.unusedSimpArgs false
set_option linter.unnecessarySimpa false
set_option maxRecDepth 100000
def insAt {α : Type} (xs : List α) (i : Nat) (x : α) : List α := xs.take i ++ x :: xs.drop i
/-- the element at place i, or one more there -/
def putAt {α : Type} (xs : List α) (i : Nat) (rep : Bool) (x : α) : List α := if rep then xs.set i x else insAt xs i x
theorem insAt_len {α : Type} (xs : List α) (i : Nat) (x : α) (h : i ≤ xs.length) : (insAt xs i x).length = xs.length + 1 := by
  unfold insAt; simp; omega
/-- children as the cells of a row -/
def kcs (ks : List Nat) : List Value := ks.map at0
theorem kcs_one (ks : List Nat) : ∀ u ∈ kcs ks, u.oneCell' = true := by
  intro u hu
  obtain ⟨k, _, rfl⟩ := List.mem_map.1 hu
  rfl
theorem kcs_ins (ks : List Nat) (i k : Nat) : (kcs ks).take (i * 1) ++ ([at0 k] ++ (kcs ks).drop (i * 1)) = kcs (insAt ks i k) := by
  unfold insAt kcs; simp
theorem kcs_del (ks : List Nat) (i : Nat) : (kcs ks).take (i * 1) ++ (kcs ks).drop ((i + 1) * 1) = kcs (ks.eraseIdx i) := by
  rw [List.eraseIdx_eq_take_drop_succ]
  unfold kcs; simp
/-- a row of children that the call owns -/
def OwnK (base : Nat) (w : World) (v : Value) (ks : List Nat) : Prop := w.ownsRow base 24 1 v ks.length (kcs ks)
theorem OwnK.base {b b' : Nat} {w : World} {v : Value} {xs : List Nat} (h : OwnK b w v xs) (hb : b' ≤ b) : OwnK b' w v xs := by
  refine ⟨h.1, ?_⟩
  rcases h.2 with h1 | ⟨g, cap, cur, h1, hg, h2⟩
  · exact .inl h1
  · exact .inr ⟨g, cap, cur, h1, Nat.le_trans hb hg, h2⟩
theorem Keep.sub {X Y : List Nat} {a b : World} (h : Keep X a b) (hs : ∀ x ∈ X, x ∈ Y) : Keep Y a b := h.mono fun x hx => .inl (hs x hx)
/-- a place that is the old one, or a new one -/
def SameOrNew (v v' : Value) (n : Nat) : Prop := ∀ g, v'.ownBlock = some g → v.ownBlock = some g ∨ n ≤ g
/-- a copy of a row: nil of nil, else a new one -/
theorem own_nil_or {w : World} {base : Nat} {e : TypeId} {size n : Nat} {v : Value} {xs : List Value} (h : w.ownsRow base e size v n xs) : (v = .slice none 0 0 ∧ n = 0) ∨ ∃ g cap, v = .slice (some ⟨g, 0, none⟩) n cap := by
  rcases h.2 with h1 | ⟨g, cap, cur, h1, _⟩
  · exact .inl h1
  · exact .inr ⟨g, cap, h1⟩
def CloneK (xs : List Nat) (w : World) (e : Ending) (w' : World) : Prop := ∃ v, e = .returned v ∧ OwnK w.heap.size w' v xs ∧ Below w.heap.size w w'
theorem clone_knil (w : World) : Calls Try.prog 94 #[.slice none 0 0] w fun e w' => e = .returned (.slice none 0 0) ∧ w = w' := by
  have hnl := fun w => run_eql_slice_nil (P := Try.prog) w 86 24 none 0 0 0 0 Try.underlying86
  go_enter Try.func94, Try.ntmps94
  go_wp2_with fail
  go_ret
  exact ⟨rfl, rfl⟩
theorem ownk_lit (w : World) : w.alloc (.cells #[] 24) |>.ownsRow w.heap.size 24 1 (.slice (some ⟨w.heap.size, 0, none⟩) 0 0) 0 [] :=
  World.ownsRow_lit w #[] 0 (Nat.le_refl _) (Nat.zero_le _) rfl
set_option maxHeartbeats 2000000 in
theorem clone_kids (base : Nat) (v : Value) (xs : List Nat) (w : World) (h : OwnK base w v xs) (hn : xs.length ≤ 900) : Calls Try.prog 94 #[v] w (CloneK xs w) := by
  rcases own_nil_or h with ⟨h1, h0⟩ | ⟨g, cap, h1⟩
  · rw [h1]
    obtain rfl := List.length_eq_zero_iff.1 h0
    refine (clone_knil w).mono ?_
    rintro e w' ⟨rfl, rfl⟩
    exact ⟨_, rfl, World.ownsRow_nil _ _ _ _, Below.refl _ _⟩
  · subst h1
    obtain ⟨i0, hi, hz0, hz1, hz2⟩ := info_parts info30
    have hh : (w.alloc (.cells #[] 24)).ownsRow base 24 1 (.slice (some ⟨g, 0, none⟩) xs.length cap) xs.length (kcs xs) := World.ownsRow.alloc h _
    have hcells : ∀ j u, (kcs xs)[j]? = some u → (w.alloc (.cells #[] 24)).cell? ((⟨g, 0, none⟩ : Addr).add j) = some u := fun j u hu => by
      have hl := (List.getElem?_eq_some_iff.1 hu).1
      have : (kcs xs).length = xs.length := by simp [kcs]
      rw [addr_at, Nat.zero_add, hh.cellAt j (by omega)]; exact hu
    have hkl : (kcs xs).length = xs.length * 1 := by simp [kcs]
    have hlit := ownk_lit w
    have hnl := fun w => run_eql_slice_nil (P := Try.prog) w 86 24 (some ⟨g, 0, none⟩) xs.length cap 0 0 Try.underlying86
    clear hh h
    go_enter Try.func94, Try.ntmps94
    go_wp2_with (at_builtin; refine wpList_append_own _ rfl _ _ 86 rfl w.heap.size 24 i0 _ 1 8 Try.underlying86 hi hz0 hz1 hz2 zsz_kids (by decide) _ _ _ rfl hlit ⟨g, 0, none⟩ xs.length cap (kcs xs) rfl hkl hcells (kcs_one xs) (by unfold maxLen; omega) (by omega) (by simp) ?_; intro v' wa hown' hgrow hnil)
    go_ret
    have hB : Below w.heap.size w wa := ((Below.refl _ w).alloc (Nat.le_refl _) _).grown hgrow (by simp) (own_ge hlit)
    refine ⟨v', rfl, ?_, hB⟩
    unfold OwnK
    simpa using hown'
end Go.Proofs.Ytimhdegdmdilaaa
