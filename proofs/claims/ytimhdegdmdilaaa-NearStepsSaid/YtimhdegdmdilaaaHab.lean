/- Rows of bytes that come of a conversion: their mark stands behind the row; strings are appended to them. -/
import Derived.Test.YtimhdegdmdilaaaHaa
import Derived.Lib.ConvBytes
import Derived.Lib.FrozenHead
import Derived.Lib.Bytealg
import Derived.Laws.Externs
import Derived.StillTailTactics
import Derived.Deep.DeepCutAuto
import Derived.Shelf.RegionOpen
import Derived.Shelf.RegionOpenPlain
import Derived.Laws.AppendOwnNone
import Derived.Lib.SliceRun
namespace Go.Proofs.Ytimhdegdmdilaaa
open Go.RowKit Go.Lib
set_option linter.unusedVariables false
set_option linter.unnecessarySimpa false
set_option linter.unusedSimpArgs false
set_option linter.unnecessarySimpa false
set_option maxRecDepth 100000
/-- the row's own bytes, its mark (if any) behind its cells -/
def OwnM (base : Nat) (w : World) (v : Value) (L : List Nat) : Prop :=
  (v = .slice none 0 0 ∧ L = []) ∨
  ∃ (g cap : Nat) (cur : Array Value) (fz : Nat × Nat), v = .slice (some ⟨g, 0, none⟩) L.length cap ∧ base ≤ g ∧ w.heap[g]? = some (.cells cur 5 fz) ∧ (fz.2 ≤ fz.1 ∨ cur.size ≤ fz.1) ∧ L.length ≤ cap ∧ cap ≤ maxLen ∧ cur.size = cap ∧ cur.toList.take L.length = ubs L
theorem OwnM.below {base : Nat} {w w' : World} {v : Value} {L : List Nat} (h : OwnM base w v L) (hb : Below w.heap.size w w') : OwnM base w' v L := by
  rcases h with h | ⟨g, cap, cur, fz, h1, h2, h3, h4⟩
  · exact .inl h
  · exact .inr ⟨g, cap, cur, fz, h1, h2, (hb.block g (Array.getElem?_eq_some_iff.1 h3).1).trans h3, h4⟩
theorem OwnM.lt {base : Nat} {w : World} {v : Value} {L : List Nat} (h : OwnM base w v L) : ∀ g, v.ownBlock = some g → base ≤ g ∧ ∃ cur fz, w.heap[g]? = some (.cells cur 5 fz) := fun g hg => by
  rcases h with ⟨rfl, _⟩ | ⟨g', cap, cur, fz, rfl, h2, h3, h4⟩
  · cases hg
  · cases hg
    exact ⟨h2, cur, fz, h3⟩
theorem OwnM.len {base : Nat} {w : World} {v : Value} {L : List Nat} (h : OwnM base w v L) : ∃ A c, v = .slice A L.length c := by
  rcases h with ⟨rfl, rfl⟩ | ⟨g, cap, cur, fz, rfl, _⟩
  · exact ⟨_, _, rfl⟩
  · exact ⟨_, _, rfl⟩
theorem OwnM.conv {base : Nat} {w : World} {v : Value} {L : List Nat} (h : OwnM base w v L) : (convert 79 9 v).run Try.prog w = .ok (.string (bytS L)) w := by
  rcases h with ⟨rfl, rfl⟩ | ⟨g, cap, cur, fz, rfl, _, h3, _, h5, _, h7, h8⟩
  · exact run_convert_bytes_nil w 79 5 Try.underlying79 Try.underlying5 0 0 9 Try.underlying9
  · refine run_convert_bytes_arg w 79 5 Try.underlying79 Try.underlying5 g 0 L.length cap _ (by simp) (fun i hi => ?_) 9 Try.underlying9
    have hi' : i < L.length := by simpa using hi
    have hget : cur.toList[i]? = (ubs L)[i]? := by
      rw [← h8, List.getElem?_take, if_pos hi']
    have hc : w.cell? ⟨g, 0 + i, none⟩ = cur[0 + i]? := by simp [World.cell?, h3]
    rw [Nat.zero_add] at hc ⊢
    rw [hc, ← Array.getElem?_toList, hget]
    simp [ubs, List.getD_eq_getElem?_getD, hi']
/-- the bytes of a string -/
theorem OwnM.new (w : World) (s : ByteArray) (base : Nat) (hb : base ≤ w.heap.size) (hs : s.size ≤ 1000000) : OwnM base (bytesWorld w 5 s) (.slice (some ⟨w.heap.size, 0, none⟩) s.size (grownCap w s.size 0 5)) (strB s) := by
  have hge := grownCap_ge w s.size 0 5
  refine .inr ⟨w.heap.size, grownCap w s.size 0 5, bytesCells w 5 s, _, by rw [strB_len], hb, bytesWorld_at_new w 5 s, .inr (Nat.le_refl _), by rw [strB_len]; exact hge, grownCap_le_maxLen w s.size 0 5 (by unfold maxLen; omega), ?_, ?_⟩
  · have : s.data.size = s.size := rfl
    simp [bytesCells]
    omega
  · have h0 : s.data.toList.length = s.size := by rw [Array.length_toList]; rfl
    simp only [bytesCells, Array.toList_append, Array.toList_map, strB_len]
    rw [List.take_left' (by rw [List.length_map]; exact h0)]
    simp [ubs, strB]
theorem bytes_below (w : World) (s : ByteArray) : Below w.heap.size w (bytesWorld w 5 s) :=
  ⟨by simp [bytesWorld, World.freeze, World.alloc, World.drew, -World.alloc_eq, -World.drew_eq], by simp [bytesWorld, World.freeze, World.alloc, World.drew, -World.alloc_eq, -World.drew_eq], by simp [bytesWorld, World.freeze, World.alloc, World.drew, -World.alloc_eq, -World.drew_eq], by rw [bytesWorld_size]; omega, fun i hi => bytesWorld_at_old w 5 s i hi⟩
theorem stores_free (P : Program) (g o : Nat) (t : TypeId) (fz : Nat × Nat) : ∀ (vs : List Value) (i : Nat) (cur : Array Value) (w : World), w.heap[g]? = some (.cells cur t fz) → (fz.2 ≤ fz.1 ∨ cur.size ≤ fz.1) → o + i + vs.length ≤ cur.size → (∀ v ∈ vs, v.oneCell' = true) →
    (storeCells ⟨g, o, none⟩ vs i).run P w = .ok () (w.setRow g (cur.toList.take (o + i) ++ vs ++ cur.toList.drop (o + i + vs.length)).toArray)
  | [], i, cur, w, hg, _, _, _ => by
    simp only [storeCells, List.append_nil, List.length_nil, Nat.add_zero, List.take_append_drop, Array.toArray_toList]
    rw [setRow_self w g cur t fz hg]
    rfl
  | v :: rest, i, cur, w, hg, hfz, hl, h1 => by
    have hi : o + i < cur.size := by simp at hl; omega
    have hadd : (⟨g, o, none⟩ : Addr).add i = ⟨g, o + i, none⟩ := by unfold Addr.add; split <;> simp_all
    have hcell : w.cell? ⟨g, o + i, none⟩ = some cur[o + i] := by simp [World.cell?, hg, hi]
    have hfro : w.frozen? ⟨g, o + i, none⟩ = false := by
      obtain ⟨lo, hi'⟩ := fz
      simp only [World.frozen?, hg, Bool.and_eq_false_iff, decide_eq_false_iff_not]
      simp only at hfz
      omega
    have hst : (store ((⟨g, o, none⟩ : Addr).add i) v).run P w = .ok () (w.setRow g (cur.setIfInBounds (o + i) v)) := by
      rw [hadd, run_store P w _ v _ (h1 v (by simp)), hcell]
      simp [hfro, setCell_eq_setRow w g (o + i) cur t fz v hg]
    have ih := stores_free P g o t fz rest (i + 1) (cur.setIfInBounds (o + i) v) (w.setRow g (cur.setIfInBounds (o + i) v)) (setRow_heap w g cur _ t _ hg) (by simpa using hfz) (by simp at hl ⊢; omega) (fun x hx => h1 x (by simp [hx]))
    simp only [storeCells, Sem.run_bind, hst, Result.andThen_ok, ih, setRow_setRow]
    congr 3
    have e := list_seg_step cur.toList (o + i) v rest (by simp at hl ⊢; omega)
    simpa [Array.toList_setIfInBounds, Nat.add_assoc] using e
theorem ubs_strB (s : ByteArray) : strCells s = ubs (strB s) := (str_cells s)
/-- a string is appended -/
theorem run_appM (base ty : Nat) (v : Value) (L : List Nat) (s : ByteArray) (w : World) (h : OwnM base w v L) (hL : L.length ≤ 1000000) (hs : s.size ≤ 1000000) (hb : base ≤ w.heap.size) :
    ∃ v' w', (Builtin.append_ #[79, 9] ty #[v, .string s]).run Try.prog w = .ok v' w' ∧ OwnM base w' v' (L ++ strB s) ∧ w.grownBy w' v.ownBlock := by
  obtain ⟨i5, hi5, hy50, hy51, hy52⟩ := info_parts info5
  rcases h with ⟨rfl, rfl⟩ | ⟨g, cap, cur, fz, rfl, hbg, hg, hfz, hnc, hcm, hcs, htake⟩
  · obtain ⟨v', w', h1, h2, h3, h4⟩ := run_append_own_string (P := Try.prog) w base 79 9 ty 5 i5 Try.underlying79 Try.underlying9 hi5 hy50 hy51 hy52 (.slice none 0 0) 0 [] ⟨rfl, .inl ⟨rfl, rfl⟩⟩ s (by unfold maxLen; omega) (by omega) hb
    refine ⟨v', w', h1, ?_, h3⟩
    rcases h2.2 with ⟨e, e0⟩ | ⟨g, cap, cur, e, e1, e2, e3, e4, e5, e6⟩
    · refine .inl ⟨e, ?_⟩
      apply List.length_eq_zero_iff.1
      show (strB s).length = 0
      rw [strB_len]; omega
    · refine .inr ⟨g, cap, cur, (0, 0), by rw [e]; simp [strB_len], e1, e2, .inl (Nat.le_refl _), by simp [strB_len]; omega, e4, by simpa using e5, ?_⟩
      have : ([] ++ strB s).length = 0 + s.size := by simp [strB_len]
      rw [this, ← Nat.mul_one (0 + s.size), e6, ubs_strB]; rfl
  · by_cases hroom : L.length + s.size ≤ cap
    · have hf := run_firstCells_string (P := Try.prog) w 1 s
      have hst := stores_free Try.prog g L.length 5 fz (strCells s) 0 cur w hg hfz (by simp [strCells_length]; omega) (strCells_oneCell s)
      simp only [Nat.add_zero, strCells_length] at hst
      refine ⟨.slice (some ⟨g, 0, none⟩) (L.length + s.size) cap, w.setRow g (cur.toList.take L.length ++ strCells s ++ cur.toList.drop (L.length + s.size)).toArray, ?_, ?_, ⟨rfl, rfl, rfl, by simp, fun k _ hk => setRow_other w g k _ (fun e => hk (by simp [Value.ownBlock, e]))⟩⟩
      · simp [Builtin.append_, run_underlying Try.underlying79, run_underlying Try.underlying9, sizeOf, typeInfo, hi5, hy51, Builtin.lenOf, hroom, hf, Addr.add_lit, hst]
      · refine .inr ⟨g, cap, _, fz, by simp [strB_len], hbg, setRow_heap w g cur _ 5 _ hg, ?_, by simp [strB_len]; omega, hcm, ?_, ?_⟩
        · rcases hfz with h | h
          · exact .inl h
          · refine .inr ?_
            simp [strCells_length]
            omega
        · simp [strCells_length]
          omega
        · rw [htake]
          have e1 : (L ++ strB s).length = (ubs L ++ strCells s).length := by simp [strB_len, strCells_length, ubs_len]
          simp only [e1]
          rw [List.take_left, ubs_app, ubs_strB]
    · have holds : ∀ j u, (ubs L)[j]? = some u → w.cell? ((⟨g, 0, none⟩ : Addr).add j) = some u := fun j u hu => by
        have hadd : (⟨g, 0, none⟩ : Addr).add j = ⟨g, j, none⟩ := by unfold Addr.add; split <;> simp_all
        rw [hadd, cell_of_row w g j cur 5 fz hg]
        rw [← htake, List.getElem?_take] at hu
        split at hu
        · simpa using hu
        · cases hu
      have hr := run_append_grow_string (P := Try.prog) w 79 9 ty 5 i5 (.int .u8 0) Try.underlying79 Try.underlying9 hi5 hy50 ⟨g, 0, none⟩ L.length cap (ubs L) (by rw [hy51]; simp [ubs_len]) holds s (by omega) (by omega) (by rw [hy52]; exact growslice_fits (by omega) (by omega))
      have hge := grownCap_ge w (L.length + s.size) cap 5
      have hcm2 : grownCap w (L.length + s.size) cap 5 ≤ maxLen := grownCap_le_maxLen w (L.length + s.size) cap 5 (by unfold maxLen; omega)
      refine ⟨_, _, hr, .inr ⟨w.heap.size, grownCap w (L.length + s.size) cap 5, _, (0, 0), by simp [strB_len], hb, heap_alloc_new w.drew _, .inl (Nat.le_refl _), by simp [strB_len]; omega, hcm2, ?_, ?_⟩, ⟨rfl, rfl, rfl, by simp, fun k hk _ => heap_alloc_old w.drew _ hk⟩⟩
      · have hz1 : (Value.int IntKind.u8 0).cells.size = 1 := rfl
        simp only [Array.size_append, List.size_toArray, size_zeroCells, hz1, ubs_len, strCells_length]
        omega
      · simp only [Array.toList_append, List.append_assoc]
        rw [← List.append_assoc]
        have e1 : (L ++ strB s).length = (ubs L ++ strCells s).length := by simp [strB_len, strCells_length, ubs_len]
        rw [e1, List.take_left, ubs_app, ubs_strB]
theorem wpList_appM {ops : Array Oper} {rest : List Oper} {o : Oper} {a : Act} {w : World} {Q : Exit → Act → World → Prop} (hgd : o.guard = none) (sl x : Operand)
    (ho : o.op = .call { callee := .builtin .append, args := #[sl, x], argTypes := #[79, 9] }) (base : Nat) (v : Value) (L : List Nat) (s : ByteArray) (hs : a.eval sl = v) (hx : a.eval x = .string s) (h : OwnM base w v L) (hL : L.length ≤ 1000000) (hss : s.size ≤ 1000000) (hb : base ≤ w.heap.size)
    (hh : ∀ v' w', OwnM base w' v' (L ++ strB s) → w.grownBy w' v.ownBlock → wpList Try.prog ops Q rest (a.put o.dst v') w') : wpList Try.prog ops Q (o :: rest) a w := by
  refine wpList_plain hgd fun K hK => ?_
  obtain ⟨v', w', hr, h2, h3⟩ := run_appM base o.type v L s w h hL hss hb
  unfold Oper.wp execOp
  simp only [ho, resolve, invoke, builtin, Sem.run_bind, Sem.run_pure, Result.andThen_ok, List.map_toArray, List.map_cons, List.map_nil, hs, hx, hr]
  exact hK _ _ (hh v' w' h2 h3)
end Go.Proofs.Ytimhdegdmdilaaa
/- Radix trees: plain mathematics. -/
namespace Go.Proofs.Ytimhdegdmdilaaa
set_option linter.unusedVariables false
set_option maxRecDepth 100000
set_option linter.unusedSimpArgs false
set_option linter.unnecessarySimpa false
/-- a node: its label, its value, its kids -/
inductive RX where
  | node (lab : List UInt8) (val : Option ByteArray) (kids : List RX)
def RX.lab : RX → List UInt8 | .node l _ _ => l
def RX.val : RX → Option ByteArray | .node _ v _ => v
def RX.kids : RX → List RX | .node _ _ ks => ks
theorem RX.eta (t : RX) : t = .node t.lab t.val t.kids := by cases t; rfl
abbrev Ent := List UInt8 × ByteArray
-- what is below a node: keys go on from its label
mutual
def body : RX → List Ent
  | .node _ v ks => (match v with | none => [] | some w => [([], w)]) ++ bodyL ks
def bodyL : List RX → List Ent
  | [] => []
  | k :: ks => (body k).map (fun x => (k.lab ++ x.1, x.2)) ++ bodyL ks
end
theorem bodyL_mem {ks : List RX} {x : Ent} : x ∈ bodyL ks ↔ ∃ k ∈ ks, ∃ y, (y, x.2) ∈ body k ∧ x.1 = k.lab ++ y := by
  induction ks with
  | nil => simp [bodyL]
  | cons k ks ih =>
    rw [bodyL, List.mem_append, ih, List.mem_map]
    constructor
    · rintro (⟨y, hy, rfl⟩ | ⟨k', hk', y, hy, e⟩)
      · exact ⟨k, by simp, y.1, hy, rfl⟩
      · exact ⟨k', by simp [hk'], y, hy, e⟩
    · rintro ⟨k', hk', y, hy, e⟩
      rcases List.mem_cons.1 hk' with rfl | hk'
      · exact .inl ⟨(y, x.2), hy, by rw [← e]⟩
      · exact .inr ⟨k', hk', y, hy, e⟩
theorem body_mem {t : RX} {x : Ent} : x ∈ body t ↔ (x.1 = [] ∧ t.val = some x.2) ∨ ∃ k ∈ t.kids, ∃ y, (y, x.2) ∈ body k ∧ x.1 = k.lab ++ y := by
  cases t with
  | node l v ks =>
    have hb : body (.node l v ks) = (match v with | none => [] | some w => [([], w)]) ++ bodyL ks := by rw [body.eq_def]
    rw [hb, List.mem_append, bodyL_mem]
    refine or_congr ?_ Iff.rfl
    cases v with
    | none => simp [RX.val]
    | some w =>
      simp only [List.mem_singleton, RX.val, Option.some.injEq]
      constructor
      · rintro rfl; exact ⟨rfl, rfl⟩
      · rintro ⟨h1, h2⟩; exact Prod.ext h1 h2.symm
/-- the byte with which a label begins -/
def fst? (t : RX) : Nat := match t.lab with | [] => 0 | b :: _ => b.toNat + 1
theorem fst_cons {t : RX} {b : UInt8} {r : List UInt8} (h : t.lab = b :: r) : fst? t = b.toNat + 1 := by unfold fst?; rw [h]
/-- a kid that may stand there -/
def Kd (t : RX) : Prop := t.lab ≠ [] ∧ (t.val.isSome = true ∨ 2 ≤ t.kids.length)
/-- canonical below -/
inductive Can : RX → Prop
  | mk {l : List UInt8} {v : Option ByteArray} {ks : List RX} : (∀ k ∈ ks, Can k) → (∀ k ∈ ks, Kd k) → ks.Pairwise (fun a b => fst? a < fst? b) → Can (.node l v ks)
theorem Can.kids {t : RX} (h : Can t) : ∀ k ∈ t.kids, Can k := by cases h with | mk a b c => exact a
theorem Can.kd {t : RX} (h : Can t) : ∀ k ∈ t.kids, Kd k := by cases h with | mk a b c => exact b
theorem Can.rises {t : RX} (h : Can t) : t.kids.Pairwise (fun a b => fst? a < fst? b) := by cases h with | mk a b c => exact c
theorem Can.of {t : RX} (a : ∀ k ∈ t.kids, Can k) (b : ∀ k ∈ t.kids, Kd k) (c : t.kids.Pairwise (fun a b => fst? a < fst? b)) : Can t := by
  cases t with
  | node l v ks => exact .mk a b c
theorem RX.ind {Q : RX → Prop} (h : ∀ t, (∀ k ∈ t.kids, Q k) → Q t) : ∀ t, Q t
  | .node l v ks => h _ fun k hk => RX.ind h k
termination_by t => sizeOf t
decreasing_by
  have := List.sizeOf_lt_of_mem hk
  simp_wf
  simp only [RX.kids] at *
  omega
/-- something is there -/
theorem body_some : ∀ t : RX, Can t → (t.val.isSome = true ∨ 1 ≤ t.kids.length) → ∃ x, x ∈ body t := by
  intro t
  induction t using RX.ind with
  | h t ih =>
    intro hc h
    cases hv : t.val with
    | some w => exact ⟨([], w), body_mem.2 (.inl ⟨rfl, hv⟩)⟩
    | none =>
      rw [hv] at h
      simp at h
      match hk : t.kids, h with
      | k :: ks, _ =>
        have hm : k ∈ t.kids := by rw [hk]; simp
        obtain ⟨x, hx⟩ := ih k hm (hc.kids k hm) (by rcases (hc.kd k hm).2 with h | h; exact .inl h; exact .inr (by omega))
        exact ⟨(k.lab ++ x.1, x.2), body_mem.2 (.inr ⟨k, hm, x.1, hx, rfl⟩)⟩
theorem rises_inj : ∀ {ks : List RX}, ks.Pairwise (fun a b => fst? a < fst? b) → ∀ {a b : RX}, a ∈ ks → b ∈ ks → fst? a = fst? b → a = b
  | [], _, a, b, ha, _, _ => by simp at ha
  | k :: ks, h, a, b, ha, hb, e => by
    rw [List.pairwise_cons] at h
    rcases List.mem_cons.1 ha with ha | ha <;> rcases List.mem_cons.1 hb with hb | hb
    · rw [ha, hb]
    · have := h.1 b hb; rw [← ha] at this; omega
    · have := h.1 a ha; rw [← hb] at this; omega
    · exact rises_inj h.2 ha hb e
theorem RX.ext {k v : RX} (h1 : k.lab = v.lab) (h2 : k.val = v.val) (h3 : k.kids = v.kids) : k = v := by
  cases k; cases v
  simp only [RX.lab, RX.val, RX.kids] at *
  rw [h1, h2, h3]
/-- two rising rows with the same members are the same -/
theorem rises_same : ∀ {as bs : List RX}, as.Pairwise (fun a b => fst? a < fst? b) → bs.Pairwise (fun a b => fst? a < fst? b) → (∀ k ∈ as, k ∈ bs) → (∀ k ∈ bs, k ∈ as) → as = bs
  | [], [], _, _, _, _ => rfl
  | [], b :: bs, _, _, _, h => by simpa using h b (by simp)
  | a :: as, [], _, _, h, _ => by simpa using h a (by simp)
  | a :: as, b :: bs, ha, hb, h1, h2 => by
    rw [List.pairwise_cons] at ha hb
    have hab : a = b := by
      rcases List.mem_cons.1 (h1 a (by simp)) with e | e
      · exact e
      · rcases List.mem_cons.1 (h2 b (by simp)) with e' | e'
        · exact e'.symm
        · have := hb.1 a e
          have := ha.1 b e'
          omega
    subst hab
    have := rises_same ha.2 hb.2 (fun k hk => by
      rcases List.mem_cons.1 (h1 k (by simp [hk])) with e | e
      · rw [e] at hk
        have := ha.1 a hk
        omega
      · exact e) (fun k hk => by
      rcases List.mem_cons.1 (h2 k (by simp [hk])) with e | e
      · rw [e] at hk
        have := hb.1 a hk
        omega
      · exact e)
    rw [this]
/-- a kid does not go on in one way only -/
theorem Kd.forks {t : RX} (hc : Can t) (hk : Kd t) (b : UInt8) : ∃ x ∈ body t, ∀ r, x.1 ≠ b :: r := by
  rcases hk.2 with h | h
  · obtain ⟨w, hw⟩ := Option.isSome_iff_exists.1 h
    exact ⟨([], w), body_mem.2 (.inl ⟨rfl, hw⟩), fun r e => by cases e⟩
  · match hks : t.kids, h with
    | k :: k' :: ks, _ =>
      have h1 : k ∈ t.kids := by rw [hks]; simp
      have h2 : k' ∈ t.kids := by rw [hks]; simp
      have hr := hc.rises
      rw [hks, List.pairwise_cons] at hr
      have hlt := hr.1 k' (by simp)
      have key : ∀ u ∈ t.kids, fst? u ≠ b.toNat + 1 → ∃ x ∈ body t, ∀ r, x.1 ≠ b :: r := fun u hu hne => by
        have hku := hc.kd u hu
        obtain ⟨x, hx⟩ := body_some u (hc.kids u hu) (by rcases hku.2 with h | h; exact .inl h; exact .inr (by omega))
        refine ⟨(u.lab ++ x.1, x.2), body_mem.2 (.inr ⟨u, hu, x.1, hx, rfl⟩), fun r e => ?_⟩
        cases hl : u.lab with
        | nil => exact hku.1 hl
        | cons a s =>
          rw [hl] at e
          simp only [List.cons_append, List.cons.injEq] at e
          rw [fst_cons hl, e.1] at hne
          exact hne rfl
      by_cases e : fst? k = b.toNat + 1
      · exact key k' h2 (by omega)
      · exact key k h1 e
/-- two canonical nodes with the same entries are alike -/
theorem can_uniq : ∀ t : RX, ∀ u : RX, Can t → Can u → (∀ x, x ∈ body t ↔ x ∈ body u) → t.val = u.val ∧ t.kids = u.kids := by
  intro t
  induction t using RX.ind with
  | h t ih =>
    intro u ht hu hm
    have hnil : ∀ (t : RX), Can t → ∀ w, ([], w) ∈ body t ↔ t.val = some w := fun t ht w => by
      rw [body_mem]
      constructor
      · rintro (h | ⟨k, hk, y, hy, e⟩)
        · exact h.2
        · exact absurd (List.append_eq_nil_iff.1 e.symm).1 (ht.kd k hk).1
      · exact fun h => .inl ⟨rfl, h⟩
    refine ⟨?_, ?_⟩
    · have h1 : ∀ w, t.val = some w ↔ u.val = some w := fun w => by rw [← hnil t ht, ← hnil u hu]; exact hm _
      exact Option.ext fun w => h1 w
    -- each kid of the one is a kid of the other
    have step : ∀ (t u : RX), Can t → Can u → (∀ x, x ∈ body t ↔ x ∈ body u) → (∀ k ∈ t.kids, ∀ v ∈ u.kids, Can k → Can v → (∀ x, x ∈ body k ↔ x ∈ body v) → k.val = v.val ∧ k.kids = v.kids) → ∀ k ∈ t.kids, k ∈ u.kids := by
      intro t u ht hu hm ih k hk
      have hkd := ht.kd k hk
      have hkc := ht.kids k hk
      obtain ⟨x, hx⟩ := body_some k hkc (by rcases hkd.2 with h | h; exact .inl h; exact .inr (by omega))
      cases hl : k.lab with
      | nil => exact absurd hl hkd.1
      | cons b s =>
        -- the kid of u that has x
        have hxt : (k.lab ++ x.1, x.2) ∈ body u := (hm _).1 (body_mem.2 (.inr ⟨k, hk, x.1, hx, rfl⟩))
        rcases body_mem.1 hxt with ⟨e, -⟩ | ⟨v, hv, y, hy, e⟩
        · rw [hl] at e; simp at e
        have hvd := hu.kd v hv
        have hvc := hu.kids v hv
        have hfv : ∃ s', v.lab = b :: s' := by
          cases hv' : v.lab with
          | nil => exact absurd hv' hvd.1
          | cons b' s' =>
            rw [hl, hv'] at e
            simp only [List.cons_append, List.cons.injEq] at e
            exact ⟨s', by rw [e.1]⟩
        obtain ⟨s', hlv⟩ := hfv
        -- entries of k and of v are the same, behind their labels
        have sub : ∀ (t u k v : RX) (b : UInt8) (s s' : List UInt8), Can u → (∀ x, x ∈ body t → x ∈ body u) → k ∈ t.kids → k.lab = b :: s → v ∈ u.kids → v.lab = b :: s' → ∀ z : Ent, z ∈ body k → ∃ y, (y, z.2) ∈ body v ∧ k.lab ++ z.1 = v.lab ++ y := by
          intro t u k v b s s' hu hm hk hl hv hlv z hz
          have h1 : (k.lab ++ z.1, z.2) ∈ body u := hm _ (body_mem.2 (.inr ⟨k, hk, z.1, hz, rfl⟩))
          rcases body_mem.1 h1 with ⟨e, -⟩ | ⟨v', hv', y, hy, e⟩
          · rw [hl] at e; simp at e
          have : fst? v' = fst? v := by
            cases hl' : v'.lab with
            | nil => exact absurd hl' (hu.kd v' hv').1
            | cons b' r' =>
              rw [hl, hl'] at e
              simp only [List.cons_append, List.cons.injEq] at e
              rw [fst_cons hl', fst_cons hlv, e.1]
          obtain rfl := rises_inj hu.rises hv' hv this
          exact ⟨y, hy, e⟩
        have s1 := sub t u k v b s s' hu (fun x h => (hm x).1 h) hk hl hv hlv
        have s2 := sub u t v k b s' s ht (fun x h => (hm x).2 h) hv hlv hk hl
        -- the labels are the same
        have lab : ∀ (k v : RX), Can k → Kd k → (∀ z : Ent, z ∈ body k → ∃ y, (y, z.2) ∈ body v ∧ k.lab ++ z.1 = v.lab ++ y) → v.lab.length ≤ k.lab.length := by
          intro k v hc hk hs
          rcases Nat.lt_or_ge k.lab.length v.lab.length with hlt | h
          · exfalso
            obtain ⟨x0, hx0⟩ := body_some k hc (by rcases hk.2 with h | h; exact .inl h; exact .inr (by omega))
            obtain ⟨y0, -, e0⟩ := hs x0 hx0
            have hp : ∃ b r, v.lab = k.lab ++ b :: r := by
              have h1 : k.lab <+: v.lab := by
                have h2 : k.lab <+: v.lab ++ y0 := ⟨x0.1, e0⟩
                exact List.prefix_of_prefix_length_le h2 (List.prefix_append _ _) (by omega)
              obtain ⟨r, hr⟩ := h1
              cases r with
              | nil => rw [List.append_nil] at hr; rw [hr] at hlt; omega
              | cons b r => exact ⟨b, r, hr.symm⟩
            obtain ⟨b, r, hp⟩ := hp
            obtain ⟨x1, hx1, hne⟩ := Kd.forks hc hk b
            obtain ⟨y1, -, e1⟩ := hs x1 hx1
            rw [hp, List.append_assoc] at e1
            have := List.append_cancel_left e1
            exact hne _ this
          · exact h
        have l1 := lab k v hkc hkd s1
        have l2 := lab v k hvc hvd s2
        have hlab : k.lab = v.lab := by
          obtain ⟨y, -, e1⟩ := s1 x hx
          exact (List.append_inj e1 (by omega)).1
        have hb : ∀ z, z ∈ body k ↔ z ∈ body v := fun z => by
          constructor
          · intro hz
            obtain ⟨y, hy, e1⟩ := s1 z hz
            rw [hlab] at e1
            rw [show z = (y, z.2) from Prod.ext (List.append_cancel_left e1) rfl]; exact hy
          · intro hz
            obtain ⟨y, hy, e1⟩ := s2 z hz
            rw [← hlab] at e1
            rw [show z = (y, z.2) from Prod.ext (List.append_cancel_left e1) rfl]; exact hy
        have := ih k hk v hv hkc hvc hb
        rw [RX.ext hlab this.1 this.2]
        exact hv
    have m1 := step t u ht hu hm fun k hk v _ hk' hv' hm' => ih k hk v hk' hv' hm'
    have m2 := step u t hu ht (fun x => (hm x).symm) fun k hk v hv hk' hv' hm' => by
      have := ih v hv k hv' hk' (fun x => (hm' x).symm)
      exact ⟨this.1.symm, this.2.symm⟩
    exact rises_same ht.rises hu.rises m1 m2
end Go.Proofs.Ytimhdegdmdilaaa
/- Radix trees: a kid is put in, replaced, taken out. -/
namespace Go.Proofs.Ytimhdegdmdilaaa
set_option linter.unusedVariables false
set_option maxRecDepth 100000
set_option linter.unusedSimpArgs false
set_option linter.unnecessarySimpa false
variable {l : List UInt8} {v : Option ByteArray} {as bs : List RX} {k u : RX}
theorem Can.ins (h : Can (.node l v (as ++ bs))) (hu : Can u) (hk : Kd u) (ha : ∀ a ∈ as, fst? a < fst? u) (hb : ∀ b ∈ bs, fst? u < fst? b) : Can (.node l v (as ++ u :: bs)) := by
  have hr := h.rises
  simp only [RX.kids] at hr
  rw [List.pairwise_append] at hr
  refine .mk (fun x hx => ?_) (fun x hx => ?_) ?_
  · rcases List.mem_append.1 hx with h1 | h1
    · exact h.kids x (List.mem_append.2 (.inl h1))
    · rcases List.mem_cons.1 h1 with rfl | h1
      · exact hu
      · exact h.kids x (List.mem_append.2 (.inr h1))
  · rcases List.mem_append.1 hx with h1 | h1
    · exact h.kd x (List.mem_append.2 (.inl h1))
    · rcases List.mem_cons.1 h1 with rfl | h1
      · exact hk
      · exact h.kd x (List.mem_append.2 (.inr h1))
  · rw [List.pairwise_append, List.pairwise_cons]
    refine ⟨hr.1, ⟨hb, hr.2.1⟩, fun a h1 b h2 => ?_⟩
    rcases List.mem_cons.1 h2 with rfl | h2
    · exact ha a h1
    · exact hr.2.2 a h1 b h2
theorem Can.del (h : Can (.node l v (as ++ k :: bs))) : Can (.node l v (as ++ bs)) := by
  have hr := h.rises
  simp only [RX.kids] at hr
  rw [List.pairwise_append, List.pairwise_cons] at hr
  have hm : ∀ x ∈ as ++ bs, x ∈ as ++ k :: bs := fun x hx => by
    rcases List.mem_append.1 hx with h1 | h1
    · exact List.mem_append.2 (.inl h1)
    · exact List.mem_append.2 (.inr (List.mem_cons.2 (.inr h1)))
  refine .mk (fun x hx => h.kids x (hm x hx)) (fun x hx => h.kd x (hm x hx)) ?_
  rw [List.pairwise_append]
  exact ⟨hr.1, hr.2.1.2, fun a h1 b h2 => hr.2.2 a h1 b (List.mem_cons.2 (.inr h2))⟩
/-- the kids about one that is there -/
theorem Can.about (h : Can (.node l v (as ++ k :: bs))) : (∀ a ∈ as, fst? a < fst? k) ∧ (∀ b ∈ bs, fst? k < fst? b) := by
  have hr := h.rises
  simp only [RX.kids] at hr
  rw [List.pairwise_append, List.pairwise_cons] at hr
  exact ⟨fun a ha => hr.2.2 a ha k (by simp), hr.2.1.1⟩
theorem Can.swap (h : Can (.node l v (as ++ k :: bs))) (hu : Can u) (hk : Kd u) (hf : fst? u = fst? k) : Can (.node l v (as ++ u :: bs)) :=
  h.del.ins hu hk (fun a ha => by rw [hf]; exact h.about.1 a ha) (fun b hb => by rw [hf]; exact h.about.2 b hb)
theorem Can.val_ (h : Can (.node l v as)) (w : Option ByteArray) : Can (.node l w as) := .mk h.kids h.kd h.rises
theorem Can.lab_ (h : Can (.node l v as)) (m : List UInt8) : Can (.node m v as) := .mk h.kids h.kd h.rises
theorem body_cut {x : Ent} : x ∈ body (.node l v (as ++ k :: bs)) ↔ x ∈ body (.node l v (as ++ bs)) ∨ ∃ y, (y, x.2) ∈ body k ∧ x.1 = k.lab ++ y := by
  rw [body_mem, body_mem]
  simp only [RX.val, RX.kids, List.mem_append, List.mem_cons]
  constructor
  · rintro (h | ⟨c, (h1 | rfl | h1), y, h2, h3⟩)
    · exact .inl (.inl h)
    · exact .inl (.inr ⟨c, .inl h1, y, h2, h3⟩)
    · exact .inr ⟨y, h2, h3⟩
    · exact .inl (.inr ⟨c, .inr h1, y, h2, h3⟩)
  · rintro ((h | ⟨c, (h1 | h1), y, h2, h3⟩) | ⟨y, h2, h3⟩)
    · exact .inl h
    · exact .inr ⟨c, .inl h1, y, h2, h3⟩
    · exact .inr ⟨c, .inr (.inr h1), y, h2, h3⟩
    · exact .inr ⟨k, .inr (.inl rfl), y, h2, h3⟩
/-- what is below a node does not depend on its label -/
theorem body_lab (m : List UInt8) : body (.node l v as) = body (.node m v as) := by rw [body.eq_def, body.eq_def]
/-- keys of kids begin with the kid's first byte -/
theorem body_first {x : Ent} {b : UInt8} {r : List UInt8} (h : Can (.node l v as)) (hx : x ∈ body (.node l v as)) (e : x.1 = b :: r) : ∃ k ∈ as, fst? k = b.toNat + 1 ∧ ∃ y, (y, x.2) ∈ body k ∧ x.1 = k.lab ++ y := by
  rcases body_mem.1 hx with ⟨h1, _⟩ | ⟨k, hk, y, h1, h2⟩
  · rw [h1] at e; cases e
  · refine ⟨k, hk, ?_, y, h1, h2⟩
    cases hl : k.lab with
    | nil => exact absurd hl (h.kd k hk).1
    | cons c s =>
      rw [h2, hl] at e
      simp only [List.cons_append, List.cons.injEq] at e
      rw [fst_cons hl, e.1]
end Go.Proofs.Ytimhdegdmdilaaa
/- Radix trees: what Put makes of a tree, by its members. -/
namespace Go.Proofs.Ytimhdegdmdilaaa
set_option linter.unusedVariables false
set_option maxRecDepth 100000
set_option linter.unusedSimpArgs false
set_option linter.unnecessarySimpa false
variable {l : List UInt8} {v : Option ByteArray} {as bs : List RX} {k u : RX}
/-- u has the members of t, and at r the value w -/
def InsX (r : List UInt8) (w : ByteArray) (t u : RX) : Prop := ∀ x : Ent, x ∈ body u ↔ x = (r, w) ∨ (x ∈ body t ∧ x.1 ≠ r)
/-- u has the members of t, but none at r -/
def DelX (r : List UInt8) (t u : RX) : Prop := ∀ x : Ent, x ∈ body u ↔ x ∈ body t ∧ x.1 ≠ r
theorem ins_here {ks : List RX} (h : Can (.node l v ks)) (w : ByteArray) : InsX [] w (.node l v ks) (.node l (some w) ks) := fun x => by
  rw [body_mem, body_mem]
  simp only [RX.val, RX.kids, Option.some.injEq]
  constructor
  · rintro (⟨h1, h2⟩ | ⟨k, hk, y, h1, h2⟩)
    · exact .inl (Prod.ext h1 h2.symm)
    · refine .inr ⟨.inr ⟨k, hk, y, h1, h2⟩, fun e => ?_⟩
      rw [h2] at e
      exact (h.kd k hk).1 (List.append_eq_nil_iff.1 e).1
  · rintro (rfl | ⟨(⟨h1, h2⟩ | h1), h3⟩)
    · exact .inl ⟨rfl, rfl⟩
    · exact absurd h1 h3
    · exact .inr h1
theorem del_here {ks : List RX} (h : Can (.node l v ks)) : DelX [] (.node l v ks) (.node l none ks) := fun x => by
  rw [body_mem, body_mem]
  simp only [RX.val, RX.kids]
  constructor
  · rintro (⟨h1, h2⟩ | ⟨k, hk, y, h1, h2⟩)
    · cases h2
    · refine ⟨.inr ⟨k, hk, y, h1, h2⟩, fun e => ?_⟩
      rw [h2] at e
      exact (h.kd k hk).1 (List.append_eq_nil_iff.1 e).1
  · rintro ⟨(⟨h1, h2⟩ | h1), h3⟩
    · exact absurd h1 h3
    · exact .inr h1
/-- kids that begin with another byte -/
def Others (b : UInt8) (ks : List RX) : Prop := ∀ c ∈ ks, c.lab ≠ [] ∧ fst? c ≠ b.toNat + 1
theorem Others.no {b : UInt8} {s : List UInt8} (h : Others b as) {x : Ent} (hx : x ∈ body (.node l v as)) : x.1 ≠ b :: s := fun e => by
  rcases body_mem.1 hx with ⟨h1, _⟩ | ⟨c, hc, y, h1, h2⟩
  · rw [h1] at e; cases e
  · obtain ⟨h3, h4⟩ := h c hc
    cases hl : c.lab with
    | nil => exact h3 hl
    | cons d t =>
      rw [h2, hl] at e
      simp only [List.cons_append, List.cons.injEq] at e
      rw [fst_cons hl, e.1] at h4
      exact h4 rfl
theorem Can.others (h : Can (.node l v (as ++ k :: bs))) {b : UInt8} {s : List UInt8} (hk : k.lab = b :: s) : Others b (as ++ bs) := fun c hc => by
  refine ⟨(h.del.kd c hc).1, ?_⟩
  rw [← fst_cons hk]
  rcases List.mem_append.1 hc with h1 | h1
  · have := h.about.1 c h1; omega
  · have := h.about.2 c h1; omega
theorem ins_new {b : UInt8} {s : List UInt8} (h : Others b (as ++ bs)) (w : ByteArray) : InsX (b :: s) w (.node l v (as ++ bs)) (.node l v (as ++ .node (b :: s) (some w) [] :: bs)) := fun x => by
  rw [body_cut]
  constructor
  · rintro (h1 | ⟨y, h1, h2⟩)
    · exact .inr ⟨h1, h.no h1⟩
    · rcases body_mem.1 h1 with ⟨e1, e2⟩ | ⟨c, hc, _⟩
      · simp only [RX.val, Option.some.injEq] at e2 e1
        rw [e1, List.append_nil] at h2
        exact .inl (Prod.ext h2 e2.symm)
      · simp [RX.kids] at hc
  · rintro (rfl | ⟨h1, _⟩)
    · exact .inr ⟨[], body_mem.2 (.inl ⟨rfl, rfl⟩), by simp [RX.lab]⟩
    · exact .inl h1
theorem ins_down {b : UInt8} {s r : List UInt8} {w : ByteArray} (h : Others b (as ++ bs)) (hk : k.lab = b :: s) (hl : u.lab = k.lab) (hi : InsX r w k u) : InsX (k.lab ++ r) w (.node l v (as ++ k :: bs)) (.node l v (as ++ u :: bs)) := fun x => by
  rw [body_cut, body_cut, hl]
  constructor
  · rintro (h1 | ⟨y, h1, h2⟩)
    · refine .inr ⟨.inl h1, ?_⟩
      rw [hk]
      exact h.no h1
    · rcases (hi (y, x.2)).1 h1 with e | ⟨e1, e2⟩
      · simp only [Prod.mk.injEq] at e
        rw [e.1] at h2
        exact .inl (Prod.ext h2 e.2)
      · refine .inr ⟨.inr ⟨y, e1, h2⟩, fun e => ?_⟩
        rw [h2] at e
        exact e2 (List.append_cancel_left e)
  · rintro (rfl | ⟨(h1 | ⟨y, h1, h2⟩), h3⟩)
    · exact .inr ⟨r, (hi _).2 (.inl rfl), rfl⟩
    · exact .inl h1
    · refine .inr ⟨y, (hi _).2 (.inr ⟨h1, fun e => h3 ?_⟩), h2⟩
      rw [h2]
      exact congrArg _ e
theorem del_down {b : UInt8} {s r : List UInt8} (h : Others b (as ++ bs)) (hk : k.lab = b :: s) (hl : u.lab = k.lab) (hi : DelX r k u) : DelX (k.lab ++ r) (.node l v (as ++ k :: bs)) (.node l v (as ++ u :: bs)) := fun x => by
  rw [body_cut, body_cut, hl]
  constructor
  · rintro (h1 | ⟨y, h1, h2⟩)
    · refine ⟨.inl h1, ?_⟩
      rw [hk]
      exact h.no h1
    · obtain ⟨e1, e2⟩ := (hi (y, x.2)).1 h1
      refine ⟨.inr ⟨y, e1, h2⟩, fun e => ?_⟩
      rw [h2] at e
      exact e2 (List.append_cancel_left e)
  · rintro ⟨(h1 | ⟨y, h1, h2⟩), h3⟩
    · exact .inl h1
    · refine .inr ⟨y, (hi _).2 ⟨h1, fun e => h3 ?_⟩, h2⟩
      rw [h2]
      exact congrArg _ e
/-- a kid's label is cut: the same members -/
theorem split_mem {p q : List UInt8} (hk : k.lab = p ++ q) (x : Ent) : x ∈ body (.node l v (as ++ .node p none [.node q k.val k.kids] :: bs)) ↔ x ∈ body (.node l v (as ++ k :: bs)) := by
  rw [body_cut, body_cut]
  refine or_congr Iff.rfl ?_
  have hb : body (.node q k.val k.kids) = body k := by
    conv => rhs; rw [RX.eta k]
    exact body_lab _
  constructor
  · rintro ⟨y, h1, h2⟩
    rcases body_mem.1 h1 with ⟨_, e⟩ | ⟨c, hc, z, h3, h4⟩
    · cases e
    · simp only [RX.kids, List.mem_singleton] at hc
      subst hc
      have h3' : (z, x.2) ∈ body k := by rw [← hb]; exact h3
      refine ⟨z, h3', ?_⟩
      simp only [RX.lab] at h2 h4
      rw [h2, h4, hk, List.append_assoc]
  · rintro ⟨z, h1, h2⟩
    refine ⟨q ++ z, body_mem.2 (.inr ⟨.node q k.val k.kids, List.mem_singleton.2 rfl, z, by rw [hb]; exact h1, rfl⟩), ?_⟩
    change x.1 = p ++ (q ++ z)
    rw [h2, hk, List.append_assoc]
end Go.Proofs.Ytimhdegdmdilaaa
/- Radix trees: a kid stays one. -/
namespace Go.Proofs.Ytimhdegdmdilaaa
set_option linter.unusedVariables false
set_option maxRecDepth 100000
set_option linter.unusedSimpArgs false
set_option linter.unnecessarySimpa false
theorem body_nil {t : RX} (h : Can t) {w : ByteArray} : ([], w) ∈ body t ↔ t.val = some w := by
  rw [body_mem]
  constructor
  · rintro (h1 | ⟨k, hk, y, hy, e⟩)
    · exact h1.2
    · exact absurd (List.append_eq_nil_iff.1 e.symm).1 (h.kd k hk).1
  · exact fun h1 => .inl ⟨rfl, h1⟩
/-- two keys that begin otherwise lie in two kids -/
theorem two_kids {t : RX} (h : Can t) {x y : Ent} {b c : UInt8} {r s : List UInt8} (hx : x ∈ body t) (hy : y ∈ body t) (ex : x.1 = b :: r) (ey : y.1 = c :: s) (hne : b ≠ c) : 2 ≤ t.kids.length := by
  rw [RX.eta t] at h hx hy
  obtain ⟨k, hk, fk, _⟩ := body_first h hx ex
  obtain ⟨k', hk', fk', _⟩ := body_first h hy ey
  match hl : t.kids with
  | [] => rw [hl] at hk; simp at hk
  | [z] =>
    exfalso
    rw [hl] at hk hk'
    rw [List.mem_singleton] at hk hk'
    rw [hk] at fk; rw [hk', fk] at fk'
    have e : b.toNat = c.toNat := by omega
    exact hne (UInt8.toNat_inj.1 e)
  | z :: z' :: zs => simp
/-- a kid that has two kids has two keys that begin otherwise -/
theorem kids_two {t : RX} (h : Can t) (h2 : 2 ≤ t.kids.length) : ∃ (x y : Ent) (b c : UInt8) (r s : List UInt8), x ∈ body t ∧ y ∈ body t ∧ x.1 = b :: r ∧ y.1 = c :: s ∧ b ≠ c := by
  match hl : t.kids, h2 with
  | k :: k' :: ks, _ =>
    have h1 : k ∈ t.kids := by rw [hl]; simp
    have h2 : k' ∈ t.kids := by rw [hl]; simp
    have hr := h.rises
    rw [hl, List.pairwise_cons] at hr
    have hlt := hr.1 k' (by simp)
    have d1 := h.kd k h1
    have d2 := h.kd k' h2
    obtain ⟨x, hx⟩ := body_some k (h.kids k h1) (by rcases d1.2 with h | h; exact .inl h; exact .inr (by omega))
    obtain ⟨y, hy⟩ := body_some k' (h.kids k' h2) (by rcases d2.2 with h | h; exact .inl h; exact .inr (by omega))
    cases e1 : k.lab with
    | nil => exact absurd e1 d1.1
    | cons b r =>
      cases e2 : k'.lab with
      | nil => exact absurd e2 d2.1
      | cons c s =>
        refine ⟨(k.lab ++ x.1, x.2), (k'.lab ++ y.1, y.2), b, c, r ++ x.1, s ++ y.1, body_mem.2 (.inr ⟨k, h1, x.1, hx, rfl⟩), body_mem.2 (.inr ⟨k', h2, y.1, hy, rfl⟩), by rw [e1]; rfl, by rw [e2]; rfl, fun e => ?_⟩
        rw [fst_cons e1, fst_cons e2, e] at hlt
        omega
/-- a kid into which a key is put is a kid still -/
theorem ins_kd {k u : RX} {r : List UInt8} {w : ByteArray} (hk : Can k) (hd : Kd k) (hu : Can u) (hl : u.lab = k.lab) (hi : InsX r w k u) : Kd u := by
  refine ⟨by rw [hl]; exact hd.1, ?_⟩
  by_cases hr : r = []
  · subst hr
    left
    rw [(body_nil hu).1 ((hi _).2 (.inl rfl))]; rfl
  · rcases hd.2 with h | h
    · obtain ⟨z, hz⟩ := Option.isSome_iff_exists.1 h
      left
      rw [(body_nil hu).1 ((hi ([], z)).2 (.inr ⟨(body_nil hk).2 hz, fun e => hr e.symm⟩))]; rfl
    · right
      obtain ⟨x, y, b, c, p, q, hx, hy, ex, ey, hne⟩ := kids_two hk h
      have key : ∀ x ∈ body k, ∃ x' ∈ body u, x'.1 = x.1 := fun x hx => by
        by_cases e : x.1 = r
        · exact ⟨(r, w), (hi _).2 (.inl rfl), e.symm⟩
        · exact ⟨x, (hi _).2 (.inr ⟨hx, e⟩), rfl⟩
      obtain ⟨x', hx', e1⟩ := key x hx
      obtain ⟨y', hy', e2⟩ := key y hy
      exact two_kids hu hx' hy' (e1.trans ex) (e2.trans ey) hne
/-- a branch that was just cut, with another key: a kid -/
theorem ins_split {p q : List UInt8} {k u : RX} {r : List UInt8} {w : ByteArray} {c : UInt8} {s : List UInt8} (hq : q = c :: s) (hk : Can k) (hd : Kd k) (hr : ∀ b t, r = b :: t → b ≠ c) (hp : p ≠ []) (hu : Can u) (hl : u.lab = p)
    (hi : InsX r w (.node p none [.node q k.val k.kids]) u) : Kd u := by
  refine ⟨by rw [hl]; exact hp, ?_⟩
  cases r with
  | nil =>
    left
    rw [(body_nil hu).1 ((hi _).2 (.inl rfl))]; rfl
  | cons b t =>
    right
    obtain ⟨x, hx⟩ := body_some k hk (by rcases hd.2 with h | h; exact .inl h; exact .inr (by omega))
    have hb : body (.node q k.val k.kids) = body k := by
      conv => rhs; rw [RX.eta k]
      exact body_lab _
    have hx' : (q ++ x.1, x.2) ∈ body (.node p none [.node q k.val k.kids]) := body_mem.2 (.inr ⟨.node q k.val k.kids, List.mem_singleton.2 rfl, x.1, by rw [hb]; exact hx, rfl⟩)
    have hne := hr b t rfl
    refine two_kids hu (x := (b :: t, w)) (y := (q ++ x.1, x.2)) (b := b) (c := c) (r := t) (s := s ++ x.1) ((hi _).2 (.inl rfl)) ((hi _).2 (.inr ⟨hx', fun e => ?_⟩)) rfl (by rw [hq]; rfl) hne
    rw [hq] at e
    simp only [List.cons_append, List.cons.injEq] at e
    exact hne e.1.symm
end Go.Proofs.Ytimhdegdmdilaaa
/- Radix trees: what Drop leaves. -/
namespace Go.Proofs.Ytimhdegdmdilaaa
set_option linter.unusedVariables false
set_option maxRecDepth 100000
set_option linter.unusedSimpArgs false
set_option linter.unnecessarySimpa false
variable {l : List UInt8} {v : Option ByteArray} {as bs : List RX} {k u : RX}
/-- a kid without kids is taken out with its key -/
theorem del_gone {b : UInt8} {s : List UInt8} (h : Others b (as ++ bs)) (hk : k.lab = b :: s) (h0 : k.kids = []) : DelX k.lab (.node l v (as ++ k :: bs)) (.node l v (as ++ bs)) := fun x => by
  rw [body_cut]
  constructor
  · intro h1
    refine ⟨.inl h1, ?_⟩
    rw [hk]
    exact h.no h1
  · rintro ⟨(h1 | ⟨y, h1, h2⟩), h3⟩
    · exact h1
    · rcases body_mem.1 h1 with ⟨e, _⟩ | ⟨c, hc, _⟩
      · simp only at e
        rw [e, List.append_nil] at h2
        exact absurd h2 h3
      · rw [h0] at hc; simp at hc
/-- a branch that is none any more takes its only kid's place: the same members -/
theorem join_mem {c : RX} (hv : u.val = none) (hc : u.kids = [c]) (x : Ent) : x ∈ body (.node l v (as ++ .node (u.lab ++ c.lab) c.val c.kids :: bs)) ↔ x ∈ body (.node l v (as ++ u :: bs)) := by
  rw [body_cut, body_cut]
  refine or_congr Iff.rfl ?_
  have hb : body (.node (u.lab ++ c.lab) c.val c.kids) = body c := by
    conv => rhs; rw [RX.eta c]
    exact body_lab _
  rw [hb]
  constructor
  · rintro ⟨z, h1, h2⟩
    refine ⟨c.lab ++ z, body_mem.2 (.inr ⟨c, by rw [hc]; exact List.mem_singleton.2 rfl, z, h1, rfl⟩), ?_⟩
    change x.1 = (u.lab ++ c.lab) ++ z at h2
    rw [h2, List.append_assoc]
  · rintro ⟨y, h1, h2⟩
    rcases body_mem.1 h1 with ⟨_, e⟩ | ⟨d, hd, z, h3, h4⟩
    · rw [hv] at e; cases e
    · rw [hc, List.mem_singleton] at hd
      subst hd
      refine ⟨z, h3, ?_⟩
      change y = d.lab ++ z at h4
      change x.1 = (u.lab ++ d.lab) ++ z
      rw [h2, h4, List.append_assoc]
theorem join_kd {c : RX} (p : List UInt8) (h : Kd c) : Kd (.node (p ++ c.lab) c.val c.kids) := ⟨fun e => h.1 (List.append_eq_nil_iff.1 e).2, h.2⟩
theorem join_can {c : RX} (p : List UInt8) (h : Can c) : Can (.node (p ++ c.lab) c.val c.kids) := .mk h.kids h.kd h.rises
/-- something is left below a kid that has kids -/
theorem del_some {r : List UInt8} (hk : Can k) (hd : Kd k) (h0 : 1 ≤ k.kids.length) (hi : DelX r k u) : ∃ x, x ∈ body u := by
  rcases hd.2 with h | h
  · obtain ⟨z, hz⟩ := Option.isSome_iff_exists.1 h
    by_cases hr : r = []
    · match hl : k.kids, h0 with
      | c :: cs, _ =>
        have hc : c ∈ k.kids := by rw [hl]; simp
        have dc := hk.kd c hc
        obtain ⟨x, hx⟩ := body_some c (hk.kids c hc) (by rcases dc.2 with h | h; exact .inl h; exact .inr (by omega))
        refine ⟨(c.lab ++ x.1, x.2), (hi _).2 ⟨body_mem.2 (.inr ⟨c, hc, x.1, hx, rfl⟩), fun e => ?_⟩⟩
        rw [hr] at e
        exact dc.1 (List.append_eq_nil_iff.1 e).1
    · exact ⟨([], z), (hi _).2 ⟨(body_nil hk).2 hz, fun e => hr e.symm⟩⟩
  · obtain ⟨x, y, b, c, p, q, hx, hy, ex, ey, hne⟩ := kids_two hk h
    by_cases e : x.1 = r
    · refine ⟨y, (hi _).2 ⟨hy, fun e' => ?_⟩⟩
      rw [← e, ex, ey] at e'
      simp only [List.cons.injEq] at e'
      exact hne e'.1.symm
    · exact ⟨x, (hi _).2 ⟨hx, e⟩⟩
/-- what a kid is after a drop: a kid, or a branch with one kid, to be joined -/
theorem del_kd {r : List UInt8} (hk : Can k) (hd : Kd k) (h0 : 1 ≤ k.kids.length) (hu : Can u) (hl : u.lab = k.lab) (hi : DelX r k u) : Kd u ∨ (u.val = none ∧ ∃ c, u.kids = [c]) := by
  cases hv : u.val with
  | some w => exact .inl ⟨by rw [hl]; exact hd.1, .inl (by rw [hv]; rfl)⟩
  | none =>
    match hks : u.kids with
    | [] =>
      obtain ⟨x, hx⟩ := del_some hk hd h0 hi
      rcases body_mem.1 hx with ⟨_, e⟩ | ⟨c, hc, _⟩
      · rw [hv] at e; cases e
      · rw [hks] at hc; simp at hc
    | [c] => exact .inr ⟨rfl, c, rfl⟩
    | c :: c' :: cs => exact .inl ⟨by rw [hl]; exact hd.1, .inr (by rw [hks]; simp)⟩
end Go.Proofs.Ytimhdegdmdilaaa
/- Pairs in memory; what comparing two keys returns; the functions by which lists of pairs are sorted and searched. -/
namespace Go.Proofs.Ytimhdegdmdilaaa
open Go.RowKit Go.Lib
set_option linter.unusedVariables false
set_option maxRecDepth 100000
set_option maxRecDepth 100000
set_option linter.unusedSimpArgs false
set_option linter.unnecessarySimpa false

/-- how two keys compare -/
def cmpS (a b : ByteArray) : Int := compareBytes a.data.toList b.data.toList
theorem bcompare (a b : ByteArray) (w : World) : Calls Try.prog 117 #[.string a, .string b] w fun e w' => e = .returned (.int .i64 (cmpS a b)) ∧ w = w' := by
  go_enter Try.func117, Try.ntmps117
  go_wp2
  rw [run_callFunc_extern Try.func123 (by kernel_rfl) (by kernel_rfl) (by kernel_rfl) (e := Extern.BytealgCompare.compare) (by kernel_rfl), run_compareString]
  go_wp2
  go_ret
  exact ⟨rfl, rfl⟩
theorem compare (a b : ByteArray) (w : World) : Calls Try.prog 108 #[.string a, .string b] w fun e w' => e = .returned (.int .i64 (cmpS a b)) ∧ w = w' := by
  go_enter Try.func108, Try.ntmps108
  go_wp2_with (go_at_call 117; refine (bcompare a b _).mono ?_; rintro e w' ⟨rfl, rfl⟩)
  go_ret
  exact ⟨rfl, rfl⟩
/-- a key and its value -/
abbrev Pr := ByteArray × ByteArray
/-- a pair as a value -/
def Pr.v (p : Pr) : Value := .agg #[.string p.1, .string p.2]
/-- pairs as the cells of a row -/
def flat (xs : List Pr) : List Value := xs.flatMap fun p => [.string p.1, .string p.2]
theorem flat_length (xs : List Pr) : (flat xs).length = xs.length * 2 := by
  induction xs with
  | nil => rfl
  | cons x xs ih => simp only [flat, List.flatMap_cons, List.length_append, List.length_cons, List.length_nil] at *; omega
theorem flat_append (xs ys : List Pr) : flat (xs ++ ys) = flat xs ++ flat ys := by simp [flat]
theorem flat_get (xs : List Pr) (j : Nat) (p : Pr) (h : xs[j]? = some p) : (flat xs)[j * 2]? = some (.string p.1) ∧ (flat xs)[j * 2 + 1]? = some (.string p.2) := by
  induction xs generalizing j with
  | nil => simp at h
  | cons x xs ih =>
    cases j with
    | zero => simp at h; subst h; simp [flat]
    | succ j =>
      simp at h
      have := ih j h
      rw [show (j + 1) * 2 = j * 2 + 2 by omega, show j * 2 + 2 + 1 = (j * 2 + 1) + 2 by omega]
      simpa [flat] using this
theorem flat_set (xs : List Pr) (j : Nat) (p : Pr) (h : j < xs.length) : ((flat xs).set (j * 2) (.string p.1)).set (j * 2 + 1) (.string p.2) = flat (xs.set j p) := by
  induction xs generalizing j with
  | nil => simp at h
  | cons x xs ih =>
    cases j with
    | zero => simp [flat]
    | succ j =>
      have := ih j (by simpa using h)
      rw [show (j + 1) * 2 = j * 2 + 2 by omega, show j * 2 + 2 + 1 = (j * 2 + 1) + 2 by omega]
      simpa [flat] using this

/-- the slice that begins at A has these pairs -/
def Rd (w : World) (A : Option Addr) (xs : List Pr) : Prop :=
  ∀ j p, xs[j]? = some p → ∃ g off, A = some ⟨g, off, none⟩ ∧ w.cell? ⟨g, off + j * 2, none⟩ = some (.string p.1) ∧ w.cell? ⟨g, off + j * 2 + 1, none⟩ = some (.string p.2)
theorem Rd.below {w w' : World} {A : Option Addr} {xs : List Pr} (h : Rd w A xs) (hb : Below w.heap.size w w') : Rd w' A xs := fun j p hj => by
  obtain ⟨g, off, e, h1, h2⟩ := h j p hj
  exact ⟨g, off, e, (hb.cell (World.block_lt_of_cell? w _ h1)).trans h1, (hb.cell (World.block_lt_of_cell? w _ h2)).trans h2⟩
/-- a row of pairs that the call owns -/
def Own (base : Nat) (w : World) (v : Value) (xs : List Pr) : Prop := w.ownsRow base 29 2 v xs.length (flat xs)
theorem Own.rd {base : Nat} {w : World} {v : Value} {xs : List Pr} (h : Own base w v xs) : ∃ A c, v = .slice A xs.length c ∧ Rd w A xs ∧ (A = none ∨ ∃ g, A = some ⟨g, 0, none⟩) := by
  rcases h.2 with ⟨h1, h0⟩ | ⟨g, cap, cur, rfl, hg, _⟩
  · exact ⟨none, 0, by rw [h1, h0], fun j p hj => by rw [List.length_eq_zero_iff.1 h0] at hj; simp at hj, .inl rfl⟩
  · refine ⟨_, cap, rfl, fun j p hj => ⟨g, 0, rfl, ?_⟩, .inr ⟨g, rfl⟩⟩
    have hf := flat_get xs j p hj
    obtain ⟨hl, _⟩ := List.getElem?_eq_some_iff.1 hj
    have h' : w.ownsRow base 29 2 (.slice (some ⟨g, 0, none⟩) xs.length cap) xs.length (flat xs) := h
    rw [Nat.zero_add, h'.cellAt (j * 2) (by omega), h'.cellAt (j * 2 + 1) (by omega)]
    exact hf
end Go.Proofs.Ytimhdegdmdilaaa
/- Keys are in one order; sorted stretches of a list, and lists that have the pairs of each key in the same order. -/
namespace Go.Proofs.Ytimhdegdmdilaaa
open Go.Lib
set_option linter.unusedVariables false
set_option maxRecDepth 100000
set_option maxRecDepth 100000
set_option linter.unusedSimpArgs false
set_option linter.unnecessarySimpa false

theorem cb_neg (a b : List UInt8) : compareBytes b a = - compareBytes a b := by
  induction a generalizing b with
  | nil => cases b <;> simp [compareBytes]
  | cons x a ih =>
    cases b with
    | nil => simp [compareBytes]
    | cons y b =>
      simp only [compareBytes]
      by_cases h1 : x < y
      · have h2 : ¬ y < x := fun h => absurd (UInt8.lt_trans h1 h) (UInt8.lt_irrefl x)
        simp [h1, h2]
      · by_cases h2 : y < x
        · simp [h1, h2]
        · simp [h1, h2, ih]
theorem cb_zero (a b : List UInt8) : compareBytes a b = 0 ↔ a = b := by
  induction a generalizing b with
  | nil => cases b <;> simp [compareBytes]
  | cons x a ih =>
    cases b with
    | nil => simp [compareBytes]
    | cons y b =>
      simp only [compareBytes]
      by_cases h1 : x < y
      · have : x ≠ y := UInt8.ne_of_lt h1
        simp [h1, this]
      · by_cases h2 : y < x
        · have : x ≠ y := fun e => UInt8.ne_of_lt h2 e.symm
          simp [h1, h2, this]
        · have : x = y := UInt8.le_antisymm (UInt8.not_lt.1 h2) (UInt8.not_lt.1 h1)
          simp [h1, h2, ih, this]
theorem cb_trans (a b c : List UInt8) (h1 : compareBytes a b < 0) (h2 : compareBytes b c < 0) : compareBytes a c < 0 := by
  induction a generalizing b c with
  | nil =>
    cases b with
    | nil => simp [compareBytes] at h1
    | cons y b =>
      cases c with
      | nil => simp [compareBytes] at h2
      | cons z c => simp [compareBytes]
  | cons x a ih =>
    cases b with
    | nil => simp [compareBytes] at h1
    | cons y b =>
      cases c with
      | nil => simp [compareBytes] at h2
      | cons z c =>
        simp only [compareBytes] at h1 h2 ⊢
        by_cases hxy : x < y
        · by_cases hyz : y < z
          · simp [UInt8.lt_trans hxy hyz]
          · by_cases hzy : z < y
            · simp [hyz, hzy] at h2
            · have e : y = z := UInt8.le_antisymm (UInt8.not_lt.1 hzy) (UInt8.not_lt.1 hyz)
              subst e
              simp [hxy]
        · by_cases hyx : y < x
          · simp [hxy, hyx] at h1
          · have e : x = y := UInt8.le_antisymm (UInt8.not_lt.1 hyx) (UInt8.not_lt.1 hxy)
            subst e
            simp only [hxy, if_false] at h1
            by_cases hyz : x < z
            · simp [hyz]
            · by_cases hzy : z < x
              · simp [hyz, hzy] at h2
              · simp only [hyz, hzy, if_false] at h2 ⊢
                exact ih b c h1 h2
theorem bytes_ext {a b : ByteArray} (h : a.data.toList = b.data.toList) : a = b := by
  obtain ⟨a⟩ := a
  obtain ⟨b⟩ := b
  simp at h
  rw [h]
theorem cmpS_neg (a b : ByteArray) : cmpS b a = - cmpS a b := cb_neg _ _
theorem cmpS_zero (a b : ByteArray) : cmpS a b = 0 ↔ a = b := ⟨fun h => bytes_ext ((cb_zero _ _).1 h), fun h => h ▸ (cb_zero _ _).2 rfl⟩
/-- less -/
def Lt (a b : ByteArray) : Prop := cmpS a b < 0
/-- not greater -/
def Le (a b : ByteArray) : Prop := 0 ≤ cmpS b a
theorem Lt.trans {a b c : ByteArray} (h1 : Lt a b) (h2 : Lt b c) : Lt a c := cb_trans _ _ _ h1 h2
theorem Lt.le {a b : ByteArray} (h : Lt a b) : Le a b := by unfold Lt at h; unfold Le; have := cmpS_neg a b; omega
theorem Lt.ne {a b : ByteArray} (h : Lt a b) : a ≠ b := fun e => by have := (cmpS_zero a b).2 e; unfold Lt at h; omega
theorem not_lt_le {a b : ByteArray} (h : ¬ cmpS a b < 0) : Le b a := by unfold Le; omega
theorem Le.lt_or_eq {a b : ByteArray} (h : Le a b) : Lt a b ∨ a = b := by
  unfold Le at h
  have := cmpS_neg a b
  by_cases h0 : cmpS a b = 0
  · exact .inr ((cmpS_zero a b).1 h0)
  · exact .inl (by unfold Lt; omega)
theorem Le.refl (a : ByteArray) : Le a a := by unfold Le; rw [(cmpS_zero a a).2 rfl]; exact Int.le_refl _
theorem Le.trans {a b c : ByteArray} (h1 : Le a b) (h2 : Le b c) : Le a c := by
  rcases h1.lt_or_eq with h | rfl
  · rcases h2.lt_or_eq with h' | rfl
    · exact (h.trans h').le
    · exact h1
  · exact h2
theorem Le.trans_lt {a b c : ByteArray} (h1 : Le a b) (h2 : Lt b c) : Lt a c := by
  rcases h1.lt_or_eq with h | rfl
  · exact h.trans h2
  · exact h2
theorem Lt.trans_le {a b c : ByteArray} (h1 : Lt a b) (h2 : Le b c) : Lt a c := by
  rcases h2.lt_or_eq with h | rfl
  · exact h1.trans h
  · exact h1
theorem Lt.asymm {a b : ByteArray} (h : Lt a b) (h' : Le b a) : False := (h.trans_le h').ne rfl

/-- the p-th pair, and its key -/
def pat (xs : List Pr) (p : Nat) : Pr := xs[p]?.getD (ByteArray.empty, ByteArray.empty)
def kat (xs : List Pr) (p : Nat) : ByteArray := (pat xs p).1
theorem pat_get {xs : List Pr} {p : Nat} (h : p < xs.length) : xs[p]? = some (pat xs p) := by
  unfold pat; rw [List.getElem?_eq_getElem h]; rfl
/-- from a to b the keys do not fall -/
def Srt (xs : List Pr) (a b : Nat) : Prop := ∀ p q, a ≤ p → p < q → q < b → Le (kat xs p) (kat xs q)
/-- the pairs of each key are the same, in the same order -/
def Stab (xs ys : List Pr) : Prop := ∀ k : ByteArray, ys.filter (fun p => decide (p.1 = k)) = xs.filter (fun p => decide (p.1 = k))
theorem Stab.refl (xs : List Pr) : Stab xs xs := fun _ => rfl
theorem Stab.trans {xs ys zs : List Pr} (h : Stab xs ys) (h' : Stab ys zs) : Stab xs zs := fun k => (h' k).trans (h k)
/-- two stretches with no key in common change places -/
theorem stab_rot (a u v b : List Pr) (h : ∀ x ∈ u, ∀ y ∈ v, x.1 ≠ y.1) : Stab (a ++ u ++ v ++ b) (a ++ v ++ u ++ b) := by
  intro k
  simp only [List.filter_append, List.append_assoc]
  congr 1
  rw [← List.append_assoc, ← List.append_assoc]
  congr 1
  by_cases hu : ∃ x ∈ u, x.1 = k
  · obtain ⟨x, hx, hk⟩ := hu
    have : v.filter (fun p => decide (p.1 = k)) = [] := by
      rw [List.filter_eq_nil_iff]
      intro y hy hyk
      simp at hyk
      exact h x hx y hy (hk.trans hyk.symm)
    simp [this]
  · have : u.filter (fun p => decide (p.1 = k)) = [] := by
      rw [List.filter_eq_nil_iff]
      intro y hy hyk
      simp at hyk
      exact hu ⟨y, hy, hyk⟩
    simp [this]
/-- two pairs change places -/
def sw (xs : List Pr) (i j : Nat) : List Pr := (xs.set i (pat xs j)).set j (pat xs i)
theorem sw_length (xs : List Pr) (i j : Nat) : (sw xs i j).length = xs.length := by simp [sw]
theorem pat_sw {xs : List Pr} {i j : Nat} (hi : i < xs.length) (hj : j < xs.length) (p : Nat) :
    pat (sw xs i j) p = if p = j then pat xs i else if p = i then pat xs j else pat xs p := by
  unfold sw
  generalize hx : pat xs i = x
  generalize hy : pat xs j = y
  unfold pat
  rw [List.getElem?_set, List.length_set, List.getElem?_set]
  by_cases h1 : j = p
  · subst h1; simp [hj]
  · by_cases h2 : i = p
    · subst h2
      have : ¬ i = j := fun e => h1 e.symm
      simp [h1, hi, this]
    · have e1 : ¬ p = j := fun e => h1 e.symm
      have e2 : ¬ p = i := fun e => h2 e.symm
      simp [h1, h2, e1, e2]
theorem sw_get {xs : List Pr} {i j p : Nat} (h1 : p ≠ i) (h2 : p ≠ j) : (sw xs i j)[p]? = xs[p]? := by
  unfold sw
  rw [List.getElem?_set_ne (Ne.symm h2), List.getElem?_set_ne (Ne.symm h1)]
/-- of two neighbours with unlike keys -/
theorem stab_sw {xs : List Pr} {j : Nat} (hj : j + 1 < xs.length) (h : kat xs (j + 1) ≠ kat xs j) : Stab xs (sw xs (j + 1) j) := by
  have hlt : j < xs.length := by omega
  have e1 : xs = xs.take j ++ [pat xs j] ++ [pat xs (j + 1)] ++ xs.drop (j + 2) := by
    have h1 : xs.drop j = pat xs j :: pat xs (j + 1) :: xs.drop (j + 2) := by
      rw [List.drop_eq_getElem_cons hlt, List.drop_eq_getElem_cons hj]
      simp [pat, hlt, hj]
    calc xs = xs.take j ++ xs.drop j := (List.take_append_drop j xs).symm
      _ = _ := by rw [h1]; simp
  have hl : (xs.take j).length = j := by rw [List.length_take]; omega
  have e2 : sw xs (j + 1) j = xs.take j ++ [pat xs (j + 1)] ++ [pat xs j] ++ xs.drop (j + 2) := by
    unfold sw
    generalize hx : pat xs (j + 1) = x at *
    generalize hy : pat xs j = y at *
    generalize xs.take j = t at *
    generalize xs.drop (j + 2) = d at *
    subst e1
    subst hl
    simp
  have := stab_rot (xs.take j) [pat xs j] [pat xs (j + 1)] (xs.drop (j + 2)) (by
    intro x hx y hy
    simp at hx hy
    subst hx hy
    exact Ne.symm h)
  rw [← e1, ← e2] at this
  exact this

/-- the element at j goes down; all others from a to i are in order, and those behind it are greater -/
def Ins (xs : List Pr) (a j i : Nat) : Prop :=
  (∀ p q, a ≤ p → p < q → q ≤ i → p ≠ j → q ≠ j → Le (kat xs p) (kat xs q)) ∧ (∀ q, j < q → q ≤ i → Lt (kat xs j) (kat xs q))
theorem ins_start {xs : List Pr} {a i : Nat} (h : Srt xs a i) : Ins xs a i i :=
  ⟨fun p q h1 h2 h3 h4 h5 => h p q h1 h2 (by omega), fun q h1 h2 => by omega⟩
theorem ins_end {xs : List Pr} {a j i : Nat} (h : Ins xs a j i) (he : j ≤ a ∨ Le (kat xs (j - 1)) (kat xs j)) : Srt xs a (i + 1) := by
  intro p q h1 h2 h3
  by_cases hp : p = j
  · subst hp; exact (h.2 q h2 (by omega)).le
  · by_cases hq : q = j
    · subst hq
      rcases he with he | he
      · omega
      · by_cases hp1 : p = q - 1
        · rw [hp1]; exact he
        · exact (h.1 p (q - 1) h1 (by omega) (by omega) hp (by omega)).trans he
    · exact h.1 p q h1 h2 (by omega) hp hq
theorem ins_step {xs : List Pr} {a j i : Nat} (h : Ins xs a (j + 1) i) (ha : a ≤ j) (hi : j + 1 ≤ i) (hl : i < xs.length) (hlt : Lt (kat xs (j + 1)) (kat xs j)) : Ins (sw xs (j + 1) j) a j i := by
  have hk : ∀ p, kat (sw xs (j + 1) j) p = if p = j then kat xs (j + 1) else if p = j + 1 then kat xs j else kat xs p := fun p => by
    unfold kat
    rw [pat_sw (by omega) (by omega)]
    split
    · rfl
    · split <;> rfl
  constructor
  · intro p q h1 h2 h3 h4 h5
    rw [hk, hk, if_neg h4, if_neg h5]
    by_cases hp : p = j + 1
    · rw [if_pos hp, if_neg (by omega)]
      exact h.1 j q ha (by omega) h3 (by omega) (by omega)
    · rw [if_neg hp]
      by_cases hq : q = j + 1
      · rw [if_pos hq]
        exact h.1 p j h1 (by omega) (by omega) hp (by omega)
      · rw [if_neg hq]
        exact h.1 p q h1 h2 h3 hp hq
  · intro q h1 h2
    rw [hk, hk, if_pos rfl, if_neg (by omega)]
    by_cases hq : q = j + 1
    · rw [if_pos hq]; exact hlt
    · rw [if_neg hq]; exact h.2 q (by omega) h2
end Go.Proofs.Ytimhdegdmdilaaa
/- The insertion sort of a stretch of a list of pairs. -/
namespace Go.Proofs.Ytimhdegdmdilaaa
open Go.RowKit Go.Lib
set_option linter.unusedVariables false
set_option maxRecDepth 100000
set_option maxRecDepth 100000
set_option linter.unusedSimpArgs false
set_option linter.unnecessarySimpa false

/-- a stretch has been sorted -/
def SortPost (base g cap : Nat) (xs : List Pr) (a b : Nat) (w : World) (e : Ending) (w' : World) : Prop :=
  e = .returned (.tuple #[]) ∧ ∃ xs', Own base w' (.slice (some ⟨g, 0, none⟩) xs.length cap) xs' ∧ xs'.length = xs.length ∧ Stab xs xs' ∧ (∀ p, p < a ∨ b ≤ p → xs'[p]? = xs[p]?) ∧ Srt xs' a b ∧ Keep [g] w w'
/-- the four cells of two pairs of a row -/
theorem Own.two {base g cap n : Nat} {w : World} {xs : List Pr} (h : Own base w (.slice (some ⟨g, 0, none⟩) n cap) xs) (i : Nat) (hi : i < xs.length) :
    w.cell? ⟨g, i * 2, none⟩ = some (.string (pat xs i).1) ∧ w.cell? ⟨g, i * 2 + 1, none⟩ = some (.string (pat xs i).2) ∧ w.frozen? ⟨g, i * 2, none⟩ = false ∧ w.frozen? ⟨g, i * 2 + 1, none⟩ = false := by
  have hn : n = xs.length := by
    rcases h.2 with ⟨h1, h0⟩ | ⟨g', cap', cur, h1, _⟩
    · cases h1
    · simp at h1; exact h1.2.1
  subst hn
  have h' : w.ownsRow base 29 2 (.slice (some ⟨g, 0, none⟩) xs.length cap) xs.length (flat xs) := h
  have hf := flat_get xs i _ (pat_get hi)
  exact ⟨(h'.cellAt (i * 2) (by omega)).trans hf.1, (h'.cellAt (i * 2 + 1) (by omega)).trans hf.2, h'.frozenAt _, h'.frozenAt _⟩

theorem Own.swap {base g cap n : Nat} {w : World} {xs : List Pr} (h : Own base w (.slice (some ⟨g, 0, none⟩) n cap) xs) (i j : Nat) (hi : i < xs.length) (hj : j < xs.length) :
    Own base ((((w.setCell ⟨g, i * 2, none⟩ (.string (pat xs j).1)).setCell ⟨g, i * 2 + 1, none⟩ (.string (pat xs j).2)).setCell ⟨g, j * 2, none⟩ (.string (pat xs i).1)).setCell ⟨g, j * 2 + 1, none⟩ (.string (pat xs i).2)) (.slice (some ⟨g, 0, none⟩) n cap) (sw xs i j) := by
  have hn : n = xs.length := by
    rcases h.2 with ⟨h1, h0⟩ | ⟨g', cap', cur, h1, _⟩
    · cases h1
    · simp at h1; exact h1.2.1
  subst hn
  have h' : w.ownsRow base 29 2 (.slice (some ⟨g, 0, none⟩) xs.length cap) xs.length (flat xs) := h
  have h1 := (((h'.stored (i * 2) (.string (pat xs j).1)).1.stored (i * 2 + 1) (.string (pat xs j).2)).1.stored (j * 2) (.string (pat xs i).1)).1.stored (j * 2 + 1) (.string (pat xs i).2)
  have h2 := h1.1
  rw [flat_set xs i (pat xs j) hi, flat_set (xs.set i (pat xs j)) j (pat xs i) (by simpa using hj)] at h2
  unfold Own
  rw [sw_length]
  exact h2

end Go.Proofs.Ytimhdegdmdilaaa
/- What a sorted list with each key once, and its last value, is: there is just one. -/
namespace Go.Proofs.Ytimhdegdmdilaaa
open Go.Lib
set_option linter.unusedVariables false
set_option maxRecDepth 100000
set_option maxRecDepth 100000
set_option linter.unusedSimpArgs false
set_option linter.unnecessarySimpa false

/-- each key is less than the next ones -/
def RisesL (R : List Pr) : Prop := R.Pairwise fun p q => Lt p.1 q.1
/-- the pairs with a key -/
def withKey (xs : List Pr) (k : ByteArray) : List Pr := xs.filter fun p => decide (p.1 = k)
/-- each key of xs once, with its last value -/
structure IsNorm (xs R : List Pr) : Prop where
  rises : RisesL R
  mem : ∀ p, p ∈ R ↔ (withKey xs p.1).getLast? = some p
theorem eq_of_rises : ∀ {R R' : List Pr}, RisesL R → RisesL R' → (∀ p, p ∈ R ↔ p ∈ R') → R = R'
  | [], [], _, _, _ => rfl
  | [], y :: r', _, _, h => absurd ((h y).2 (by simp)) (by simp)
  | x :: r, [], _, _, h => absurd ((h x).1 (by simp)) (by simp)
  | x :: r, y :: r', h1, h2, h => by
    unfold RisesL at h1 h2
    rw [List.pairwise_cons] at h1 h2
    have hxy : x = y := by
      rcases List.mem_cons.1 ((h x).1 (by simp)) with e | hx
      · exact e
      · rcases List.mem_cons.1 ((h y).2 (by simp)) with e | hy
        · exact e.symm
        · exact absurd rfl ((h2.1 x hx).trans (h1.1 y hy)).ne
    subst hxy
    congr 1
    refine eq_of_rises h1.2 h2.2 fun p => ⟨fun hp => ?_, fun hp => ?_⟩
    · rcases List.mem_cons.1 ((h p).1 (List.mem_cons_of_mem _ hp)) with e | h'
      · subst e; exact absurd rfl (h1.1 p hp).ne
      · exact h'
    · rcases List.mem_cons.1 ((h p).2 (List.mem_cons_of_mem _ hp)) with e | h'
      · subst e; exact absurd rfl (h2.1 p hp).ne
      · exact h'
theorem norm_unique {xs R R' : List Pr} (h : IsNorm xs R) (h' : IsNorm xs R') : R = R' :=
  eq_of_rises h.rises h'.rises fun p => (h.mem p).trans (h'.mem p).symm
theorem IsNorm.stab {xs ys R : List Pr} (h : IsNorm ys R) (hs : Stab xs ys) : IsNorm xs R :=
  ⟨h.rises, fun p => by rw [h.mem p]; unfold withKey; rw [hs p.1]⟩

/-- of a list whose keys do not fall: the last of each key -/
def dd : List Pr → List Pr
  | [] => []
  | [x] => [x]
  | x :: y :: r => if y.1 = x.1 then dd (y :: r) else x :: dd (y :: r)
theorem dd_cons (x : Pr) (r : List Pr) : dd (x :: r) = (if r = [] ∨ kat r 0 ≠ x.1 then [x] else []) ++ dd r := by
  cases r with
  | nil => simp [dd]
  | cons y r =>
    rw [dd]
    have : kat (y :: r) 0 = y.1 := rfl
    rw [this]
    by_cases h : y.1 = x.1 <;> simp [h]
theorem dd_mem {ys : List Pr} {p : Pr} (h : p ∈ dd ys) : p ∈ ys := by
  induction ys with
  | nil => simp [dd] at h
  | cons x r ih =>
    rw [dd_cons] at h
    rcases List.mem_append.1 h with h | h
    · split at h
      · simp at h; simp [h]
      · simp at h
    · exact List.mem_cons_of_mem _ (ih h)
theorem dd_norm {ys : List Pr} (h : ys.Pairwise fun p q => Le p.1 q.1) : IsNorm ys (dd ys) := by
  induction ys with
  | nil => exact ⟨List.Pairwise.nil, fun p => by simp [dd, withKey]⟩
  | cons x r ih =>
    rw [List.pairwise_cons] at h
    have ih := ih h.2
    cases r with
    | nil =>
      refine ⟨by simp [dd, RisesL], fun p => ?_⟩
      simp only [dd, List.mem_singleton, withKey]
      constructor
      · rintro rfl; simp
      · intro h
        by_cases e : x.1 = p.1
        · simp [e] at h; exact h.symm
        · simp [e] at h
    | cons y r =>
      have hp := List.pairwise_cons.1 h.2
      by_cases e : y.1 = x.1
      · have ed : dd (x :: y :: r) = dd (y :: r) := by rw [dd, if_pos e]
        rw [ed]
        refine ⟨ih.rises, fun p => ?_⟩
        rw [ih.mem p]
        have : (withKey (x :: y :: r) p.1).getLast? = (withKey (y :: r) p.1).getLast? := by
          by_cases ep : x.1 = p.1
          · have h1 : withKey (x :: y :: r) p.1 = x :: withKey (y :: r) p.1 := by simp [withKey, ep]
            have h2 : withKey (y :: r) p.1 = y :: withKey r p.1 := by simp [withKey, e, ep]
            rw [h1, h2]
            rw [List.getLast?_cons_cons]
          · have h1 : withKey (x :: y :: r) p.1 = withKey (y :: r) p.1 := by
              unfold withKey
              rw [List.filter_cons_of_neg (by simpa using ep)]
            rw [h1]
        rw [this]
      · have ed : dd (x :: y :: r) = x :: dd (y :: r) := by rw [dd, if_neg e]
        have hlt : ∀ q ∈ y :: r, Lt x.1 q.1 := by
          have hxy : Lt x.1 y.1 := by
            rcases (h.1 y (by simp)).lt_or_eq with h | h
            · exact h
            · exact absurd h.symm e
          intro q hq
          rcases List.mem_cons.1 hq with rfl | hq
          · exact hxy
          · exact hxy.trans_le (hp.1 q hq)
        rw [ed]
        refine ⟨?_, fun p => ?_⟩
        · unfold RisesL
          rw [List.pairwise_cons]
          exact ⟨fun q hq => hlt q (dd_mem hq), ih.rises⟩
        · by_cases ep : x.1 = p.1
          · have h2 : withKey (y :: r) p.1 = [] := by
              unfold withKey
              rw [List.filter_eq_nil_iff]
              intro q hq hqp
              simp at hqp
              exact (hlt q hq).ne (ep.trans hqp.symm)
            have h1 : withKey (x :: y :: r) p.1 = [x] := by
              have : withKey (x :: y :: r) p.1 = x :: withKey (y :: r) p.1 := by
                unfold withKey
                rw [List.filter_cons_of_pos (by simpa using ep)]
              rw [this, h2]
            rw [h1]
            simp only [List.mem_cons, List.getLast?_singleton, Option.some.injEq]
            constructor
            · rintro (rfl | hq)
              · rfl
              · exact absurd ep (hlt p (dd_mem hq)).ne
            · intro e; exact .inl e.symm
          · have h1 : withKey (x :: y :: r) p.1 = withKey (y :: r) p.1 := by
              unfold withKey
              rw [List.filter_cons_of_neg (by simpa using ep)]
            rw [h1, ← ih.mem p]
            simp only [List.mem_cons]
            constructor
            · rintro (rfl | hq)
              · exact absurd rfl ep
              · exact hq
            · exact .inr
theorem pairwise_of_srt {ys : List Pr} (h : Srt ys 0 ys.length) : ys.Pairwise fun p q => Le p.1 q.1 := by
  rw [List.pairwise_iff_getElem]
  intro i j hi hj hij
  have := h i j (Nat.zero_le _) hij hj
  unfold kat pat at this
  rw [List.getElem?_eq_getElem hi, List.getElem?_eq_getElem hj] at this
  exact this
end Go.Proofs.Ytimhdegdmdilaaa
/- Copies of lists; the stable sort of short lists. -/
namespace Go.Proofs.Ytimhdegdmdilaaa
open Go.RowKit Go.Lib
set_option linter.unusedVariables false
set_option maxRecDepth 100000
set_option maxRecDepth 100000
set_option linter.unusedSimpArgs false
set_option linter.unnecessarySimpa false

theorem info33 : (Try.prog.info? 29).map (fun i => (i.zero, i.size, i.bytes)) = some (some (.agg #[.string ByteArray.empty, .string ByteArray.empty]), 2, 32) := by kernel_rfl
theorem flat_one (xs : List Pr) : ∀ u ∈ flat xs, u.oneCell' = true := by
  intro u hu
  unfold flat at hu
  obtain ⟨p, _, hp⟩ := List.mem_flatMap.1 hu
  simp at hp
  rcases hp with rfl | rfl <;> rfl
theorem addr_add (g off j : Nat) : (⟨g, off, none⟩ : Addr).add j = ⟨g, off + j, none⟩ := by unfold Addr.add; split <;> simp_all
/-- the cells of a slice of pairs, one by one -/
theorem Rd.cells {w : World} {g off : Nat} {xs : List Pr} (h : Rd w (some ⟨g, off, none⟩) xs) : ∀ j u, (flat xs)[j]? = some u → w.cell? ((⟨g, off, none⟩ : Addr).add j) = some u := by
  intro j u hj
  rw [addr_add]
  have hl := (List.getElem?_eq_some_iff.1 hj).1
  rw [flat_length] at hl
  have hp := pat_get (xs := xs) (p := j / 2) (by omega)
  obtain ⟨g', off', e, h1, h2⟩ := h (j / 2) _ hp
  simp at e
  obtain ⟨rfl, rfl⟩ := e
  have hf := flat_get xs (j / 2) _ hp
  rcases Nat.mod_two_eq_zero_or_one j with hm | hm
  · have ej : j / 2 * 2 = j := by omega
    rw [ej] at h1 hf
    rw [hj] at hf
    rw [h1, hf.1]
  · have ej : j / 2 * 2 + 1 = j := by omega
    rw [Nat.add_assoc, ej] at h2
    rw [ej] at hf
    rw [hj] at hf
    rw [h2, hf.2]
theorem Rd.starts {w : World} {A : Option Addr} {xs : List Pr} (h : Rd w A xs) (hx : 0 < xs.length) : ∃ g off, A = some ⟨g, off, none⟩ := by
  obtain ⟨g, off, e, _⟩ := h 0 _ (pat_get hx)
  exact ⟨g, off, e⟩

/-- a list in memory of its own -/
def NewList (xs : List Pr) (w : World) (e : Ending) (w' : World) : Prop := ∃ v, e = .returned v ∧ Own w.heap.size w' v xs ∧ Below w.heap.size w w'
theorem own_lit (w : World) : Own w.heap.size (w.alloc (.cells #[] 29)) (.slice (some ⟨w.heap.size, 0, none⟩) 0 0) [] :=
  World.ownsRow_lit w #[] 0 (Nat.le_refl _) (Nat.zero_le _) rfl

end Go.Proofs.Ytimhdegdmdilaaa
