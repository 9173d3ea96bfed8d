/- Bytes that are appended: numbers, texts; the program's and the reference's. -/
import Derived.Test.YtimhdegdmdilaaaHab
import Derived.Lib.AppendStr
import Derived.Lib.ConvBytes
import Derived.ArgAppend
import Derived.Deep.AppendLies
import Derived.Laws.NewBlocks
import Derived.BigQuiet
import Derived.Lib.FrozenHead
namespace Go.Proofs.Ytimhdegdmdilaaa
open Go.RowKit Go.Lib
set_option linter.unusedVariables false
set_option maxRecDepth 100000
set_option linter.unusedSimpArgs false
set_option linter.unnecessarySimpa false
set_option maxRecDepth 100000
/-- the cells of an owned row: those of its block -/
theorem own_blkZ {w : World} {base : Nat} {e : TypeId} {size n : Nat} {v : Value} {xs : List Value} (h : w.ownsRow base e size v n xs) (hn : 0 < n) :
    ∃ g cap cur, v = .slice (some ⟨g, 0, none⟩) n cap ∧ base ≤ g ∧ Blk w g e cur ∧ n ≤ cap ∧ cap ≤ maxLen ∧ cur.size = cap * size ∧ cur.toList.take (n * size) = xs := by
  rcases h.2 with ⟨_, h0⟩ | ⟨g, cap, cur, h1, h2, h3, h4⟩
  · omega
  · exact ⟨g, cap, cur, h1, h2, h3, h4⟩
theorem own_formN {w : World} {base ty sz n : Nat} {v : Value} {xs : List Value} (h : w.ownsRow base ty sz v n xs) : ∃ A c, v = .slice A n c := by
  rcases h.2 with ⟨e, e0⟩ | ⟨g, cap, cur, e, _⟩
  · exact ⟨none, 0, by rw [e, e0]⟩
  · exact ⟨_, _, e⟩
set_option linter.unusedVariables false
set_option maxRecDepth 100000
set_option linter.unusedSimpArgs false
set_option linter.unnecessarySimpa false
set_option maxRecDepth 100000
def twoB (n : Nat) : List Nat := [n % 256, n / 256 % 256]
def fourB (n : Nat) : List Nat := [n % 256, n / 256 % 256, n / 65536 % 256, n / 16777216 % 256]
def strB (s : ByteArray) : List Nat := s.data.toList.map UInt8.toNat
def textB (s : ByteArray) : List Nat := twoB s.size ++ strB s
theorem strB_len (s : ByteArray) : (strB s).length = s.size := by
  unfold strB
  rw [List.length_map]
  rfl
def ubs (L : List Nat) : List Value := L.map fun n : Nat => Value.int .u8 n
/-- a row of bytes of one's own -/
def OwnB (base : Nat) (w : World) (v : Value) (L : List Nat) : Prop := w.ownsRow base 5 1 v L.length (ubs L)
theorem ubs_len (L : List Nat) : (ubs L).length = L.length := by simp [ubs]
theorem ubs_app (L M : List Nat) : ubs (L ++ M) = ubs L ++ ubs M := by simp [ubs]
theorem OwnB.nil (base : Nat) (w : World) : OwnB base w (.slice none 0 0) [] := ⟨rfl, .inl ⟨rfl, rfl⟩⟩
theorem below_drewK (w : World) (k : Nat) : Below w.heap.size w (w.drewN k) := ⟨rfl, rfl, rfl, Nat.le_refl _, fun _ _ => rfl⟩
theorem OwnB.below {base : Nat} {w w' : World} {v : Value} {L : List Nat} (h : OwnB base w v L) (hb : Below w.heap.size w w') : OwnB base w' v L := own_keep h (Keep.of_below (X := []) hb) (by simp)
theorem info5 : (Try.prog.info? 5).map (fun i => (i.zero, i.size, i.bytes)) = some (some (.int .u8 0), 1, 1) := by kernel_rfl
theorem zsz_u8 : (Value.cells (.int .u8 0)).size = 1 := by simp [Value.cells]
def numB (x s : Nat) : List Nat := (List.range s).map fun i => x / 2 ^ (8 * i) % 256
theorem numB_succ (x s : Nat) : numB x (s + 1) = numB x s ++ [x / 2 ^ (8 * s) % 256] := by simp [numB, List.range_succ]
theorem numB_len (x s : Nat) : (numB x s).length = s := by simp [numB]
theorem numB_two (x : Nat) : numB x 2 = twoB x := by simp [numB, twoB, List.range_succ]
theorem numB_four (x : Nat) : numB x 4 = fourB x := by simp [numB, fourB, List.range_succ]
theorem textB_len (s : ByteArray) : (textB s).length = s.size + 2 := by simp [textB, strB_len, twoB]
theorem str_cells (s : ByteArray) : strCells s = ubs (strB s) := by simp [strCells, ubs, strB]
/-- a row whose room is all taken: an append to it makes a row of its own -/
def FullB (w : World) (v : Value) (L : List Nat) : Prop := (v = .slice none 0 0 ∧ L = []) ∨ ∃ g, v = .slice (some ⟨g, 0, none⟩) L.length L.length ∧ ∀ b, (some ⟨g, 0, none⟩ : Option Addr) = some b → ∀ j u, (ubs L)[j]? = some u → w.cell? (b.add j) = some u
theorem FullB.nil (w : World) : FullB w (.slice none 0 0) [] := .inl ⟨rfl, rfl⟩
theorem OwnB.low {base base' : Nat} {w : World} {v : Value} {L : List Nat} (h : OwnB base w v L) (hb : base' ≤ base) : OwnB base' w v L := by
  refine ⟨h.1, ?_⟩
  rcases h.2 with h1 | ⟨g, cap, cur, h1, h2, h3⟩
  · exact .inl h1
  · exact .inr ⟨g, cap, cur, h1, Nat.le_trans hb h2, h3⟩
/-- what a call that makes bytes of its own leaves -/
def MadeB (L : List Nat) (w : World) (e : Ending) (w' : World) : Prop := ∃ v, e = .returned v ∧ OwnB w.heap.size w' v L ∧ Below w.heap.size w w'
theorem build2 (ev : Operand → Value) (o : Oper) (s t : Operand) (a b : Int) (w : World) (ho : o.op = .buildSlice 79 2 #[(0, s), (1, t)]) (hs : ev s = .int .u8 a) (ht : ev t = .int .u8 b) :
    (execOp ev o).run Try.prog w = .ok (.value (.slice (some ⟨w.heap.size, 0, none⟩) 2 2)) (w.alloc (.cells #[.int .u8 a, .int .u8 b] 5)) := by
  unfold execOp
  simp only [ho, List.map_toArray, List.map_cons, List.map_nil, hs, ht]
  kernel_rfl
/-- a row that was just made, whole -/
theorem OwnB.new {base : Nat} {w : World} {L : List Nat} {cs : Array Value} {n : Nat} (hb : base ≤ w.heap.size) (hn : L.length = n) (hm : n ≤ maxLen) (he : cs.toList = ubs L) : OwnB base (w.alloc (.cells cs 5)) (.slice (some ⟨w.heap.size, 0, none⟩) n n) L := by
  subst hn
  refine ⟨by rw [ubs_len]; simp, .inr ⟨w.heap.size, L.length, cs, rfl, hb, heap_alloc_new w _, Nat.le_refl _, hm, ?_, ?_⟩⟩
  · have := congrArg List.length he
    rw [ubs_len] at this
    simpa using this
  · rw [he, Nat.mul_one, ← ubs_len, List.take_length]
theorem below_conv (w : World) (s : ByteArray) : Below w.heap.size w (bytesWorld w 5 s) := ⟨rfl, rfl, rfl, by rw [bytesWorld_size]; omega, fun i hi => bytesWorld_at_old w 5 s i hi⟩
theorem strB_get (s : ByteArray) (j : Nat) (h : j < s.size) : (strB s)[j]? = some (s.data.toList.getD j 0).toNat := by
  unfold strB
  have hl : j < s.data.toList.length := h
  rw [List.getElem?_map, List.getElem?_eq_getElem hl, Option.map_some, List.getD_eq_getElem?_getD, List.getElem?_eq_getElem hl, Option.getD_some]
theorem take_step {L M : List Nat} {k : Nat} (hl : L.length = M.length) (hk : k < L.length) (h : L.take k = M.take k) (he : L[k]? = M[k]?) : L.take (k + 1) = M.take (k + 1) := by
  rw [List.take_add_one, List.take_add_one, h, he]
theorem OwnB.drewN {base : Nat} {w : World} {v : Value} {L : List Nat} (h : OwnB base w v L) (n : Nat) : OwnB base (w.drewN n) v L := h.below (below_drewK w n)
theorem OwnB.at {base : Nat} {w : World} {A : Option Addr} {n c : Nat} {L : List Nat} (h : OwnB base w (.slice A n c) L) (k : Nat) (hk : k < L.length) : ∃ g, A = some ⟨g, 0, none⟩ ∧ w.cell? ⟨g, k, none⟩ = some (.int .u8 (L[k] : Nat)) := by
  obtain ⟨g, cap, cur, e, -⟩ := own_blkZ h (by omega)
  simp only [Value.slice.injEq] at e
  obtain ⟨rfl, rfl, rfl⟩ := e
  refine ⟨g, rfl, ?_⟩
  have h' : w.ownsRow base 5 1 (.slice (some ⟨g, 0, none⟩) L.length c) L.length (ubs L) := h
  rw [h'.cellAt k (by omega)]
  simp [ubs, hk]
end Go.Proofs.Ytimhdegdmdilaaa
/- Bytes as strings. -/
namespace Go.Proofs.Ytimhdegdmdilaaa
open Go.RowKit Go.Lib
set_option linter.unusedVariables false
set_option maxRecDepth 100000
set_option linter.unnecessarySimpa false
set_option linter.unusedSimpArgs false
set_option linter.unnecessarySimpa false
set_option maxRecDepth 100000
def bytS (L : List Nat) : ByteArray := strOfNums (L.map fun n : Nat => (n : Int))
theorem bytS_size (L : List Nat) : (bytS L).size = L.length := by unfold bytS; rw [strOfNums_size, List.length_map]
theorem conv_own {base : Nat} {w : World} {v : Value} {L : List Nat} (h : OwnB base w v L) : (convert 79 9 v).run Try.prog w = .ok (.string (bytS L)) w := by
  rcases h.2 with ⟨rfl, h0⟩ | ⟨g, cap, cur, rfl, _⟩
  · obtain rfl := List.length_eq_zero_iff.1 h0
    exact run_convert_bytes_nil w 79 5 Try.underlying79 Try.underlying5 0 0 9 Try.underlying9
  · refine run_convert_bytes_arg w 79 5 Try.underlying79 Try.underlying5 g 0 L.length cap _ (by simp) (fun i hi => ?_) 9 Try.underlying9
    rw [Nat.zero_add, World.ownsRow.cellAt h i (by omega)]
    simp [ubs, List.getD_eq_getElem?_getD, hi]
end Go.Proofs.Ytimhdegdmdilaaa
/- Rows of bytes that come of a conversion: their mark stands behind the row; strings are appended to them. -/
namespace Go.Proofs.Ytimhdegdmdilaaa
open Go.RowKit Go.Lib
set_option linter.unusedVariables false
set_option linter.unnecessarySimpa false
set_option linter.unusedSimpArgs false
set_option linter.unnecessarySimpa false
set_option maxRecDepth 100000
/-- the row's own bytes, its mark (if any) behind its cells -/
def OwnM (base : Nat) (w : World) (v : Value) (L : List Nat) : Prop :=
  (v = .slice none 0 0 ∧ L = []) ∨
  ∃ (g cap : Nat) (cur : Array Value) (fz : Nat × Nat), v = .slice (some ⟨g, 0, none⟩) L.length cap ∧ base ≤ g ∧ w.heap[g]? = some (.cells cur 5 fz) ∧ (fz.2 ≤ fz.1 ∨ cur.size ≤ fz.1) ∧ L.length ≤ cap ∧ cap ≤ maxLen ∧ cur.size = cap ∧ cur.toList.take L.length = ubs L
theorem OwnM.below {base : Nat} {w w' : World} {v : Value} {L : List Nat} (h : OwnM base w v L) (hb : Below w.heap.size w w') : OwnM base w' v L := by
  rcases h with h | ⟨g, cap, cur, fz, h1, h2, h3, h4⟩
  · exact .inl h
  · exact .inr ⟨g, cap, cur, fz, h1, h2, (hb.block g (Array.getElem?_eq_some_iff.1 h3).1).trans h3, h4⟩
theorem OwnM.lt {base : Nat} {w : World} {v : Value} {L : List Nat} (h : OwnM base w v L) : ∀ g, v.ownBlock = some g → base ≤ g ∧ ∃ cur fz, w.heap[g]? = some (.cells cur 5 fz) := fun g hg => by
  rcases h with ⟨rfl, _⟩ | ⟨g', cap, cur, fz, rfl, h2, h3, h4⟩
  · cases hg
  · cases hg
    exact ⟨h2, cur, fz, h3⟩
theorem OwnM.len {base : Nat} {w : World} {v : Value} {L : List Nat} (h : OwnM base w v L) : ∃ A c, v = .slice A L.length c := by
  rcases h with ⟨rfl, rfl⟩ | ⟨g, cap, cur, fz, rfl, _⟩
  · exact ⟨_, _, rfl⟩
  · exact ⟨_, _, rfl⟩
theorem OwnM.conv {base : Nat} {w : World} {v : Value} {L : List Nat} (h : OwnM base w v L) : (convert 79 9 v).run Try.prog w = .ok (.string (bytS L)) w := by
  rcases h with ⟨rfl, rfl⟩ | ⟨g, cap, cur, fz, rfl, _, h3, _, h5, _, h7, h8⟩
  · exact run_convert_bytes_nil w 79 5 Try.underlying79 Try.underlying5 0 0 9 Try.underlying9
  · refine run_convert_bytes_arg w 79 5 Try.underlying79 Try.underlying5 g 0 L.length cap _ (by simp) (fun i hi => ?_) 9 Try.underlying9
    have hi' : i < L.length := by simpa using hi
    have hget : cur.toList[i]? = (ubs L)[i]? := by
      rw [← h8, List.getElem?_take, if_pos hi']
    have hc : w.cell? ⟨g, 0 + i, none⟩ = cur[0 + i]? := by simp [World.cell?, h3]
    rw [Nat.zero_add] at hc ⊢
    rw [hc, ← Array.getElem?_toList, hget]
    simp [ubs, List.getD_eq_getElem?_getD, hi']
/-- the bytes of a string -/
theorem OwnM.new (w : World) (s : ByteArray) (base : Nat) (hb : base ≤ w.heap.size) (hs : s.size ≤ 1000000) : OwnM base (bytesWorld w 5 s) (.slice (some ⟨w.heap.size, 0, none⟩) s.size (grownCap w s.size 0 5)) (strB s) := by
  have hge := grownCap_ge w s.size 0 5
  refine .inr ⟨w.heap.size, grownCap w s.size 0 5, bytesCells w 5 s, _, by rw [strB_len], hb, bytesWorld_at_new w 5 s, .inr (Nat.le_refl _), by rw [strB_len]; exact hge, grownCap_le_maxLen w s.size 0 5 (by unfold maxLen; omega), ?_, ?_⟩
  · have : s.data.size = s.size := rfl
    simp [bytesCells]
    omega
  · have h0 : s.data.toList.length = s.size := by rw [Array.length_toList]; rfl
    simp only [bytesCells, Array.toList_append, Array.toList_map, strB_len]
    rw [List.take_left' (by rw [List.length_map]; exact h0)]
    simp [ubs, strB]
theorem bytes_below (w : World) (s : ByteArray) : Below w.heap.size w (bytesWorld w 5 s) :=
  ⟨by simp [bytesWorld, World.freeze, World.alloc, World.drew, -World.alloc_eq, -World.drew_eq], by simp [bytesWorld, World.freeze, World.alloc, World.drew, -World.alloc_eq, -World.drew_eq], by simp [bytesWorld, World.freeze, World.alloc, World.drew, -World.alloc_eq, -World.drew_eq], by rw [bytesWorld_size]; omega, fun i hi => bytesWorld_at_old w 5 s i hi⟩
theorem stores_free (P : Program) (g o : Nat) (t : TypeId) (fz : Nat × Nat) : ∀ (vs : List Value) (i : Nat) (cur : Array Value) (w : World), w.heap[g]? = some (.cells cur t fz) → (fz.2 ≤ fz.1 ∨ cur.size ≤ fz.1) → o + i + vs.length ≤ cur.size → (∀ v ∈ vs, v.oneCell' = true) →
    (storeCells ⟨g, o, none⟩ vs i).run P w = .ok () (w.setRow g (cur.toList.take (o + i) ++ vs ++ cur.toList.drop (o + i + vs.length)).toArray)
  | [], i, cur, w, hg, _, _, _ => by
    simp only [storeCells, List.append_nil, List.length_nil, Nat.add_zero, List.take_append_drop, Array.toArray_toList]
    rw [setRow_self w g cur t fz hg]
    rfl
  | v :: rest, i, cur, w, hg, hfz, hl, h1 => by
    have hi : o + i < cur.size := by simp at hl; omega
    have hadd : (⟨g, o, none⟩ : Addr).add i = ⟨g, o + i, none⟩ := by unfold Addr.add; split <;> simp_all
    have hcell : w.cell? ⟨g, o + i, none⟩ = some cur[o + i] := by simp [World.cell?, hg, hi]
    have hfro : w.frozen? ⟨g, o + i, none⟩ = false := by
      obtain ⟨lo, hi'⟩ := fz
      simp only [World.frozen?, hg, Bool.and_eq_false_iff, decide_eq_false_iff_not]
      simp only at hfz
      omega
    have hst : (store ((⟨g, o, none⟩ : Addr).add i) v).run P w = .ok () (w.setRow g (cur.setIfInBounds (o + i) v)) := by
      rw [hadd, run_store P w _ v _ (h1 v (by simp)), hcell]
      simp [hfro, setCell_eq_setRow w g (o + i) cur t fz v hg]
    have ih := stores_free P g o t fz rest (i + 1) (cur.setIfInBounds (o + i) v) (w.setRow g (cur.setIfInBounds (o + i) v)) (setRow_heap w g cur _ t _ hg) (by simpa using hfz) (by simp at hl ⊢; omega) (fun x hx => h1 x (by simp [hx]))
    simp only [storeCells, Sem.run_bind, hst, Result.andThen_ok, ih, setRow_setRow]
    congr 3
    have e := list_seg_step cur.toList (o + i) v rest (by simp at hl ⊢; omega)
    simpa [Array.toList_setIfInBounds, Nat.add_assoc] using e
theorem ubs_strB (s : ByteArray) : strCells s = ubs (strB s) := (str_cells s)
/-- a string is appended -/
theorem run_appM (base ty : Nat) (v : Value) (L : List Nat) (s : ByteArray) (w : World) (h : OwnM base w v L) (hL : L.length ≤ 1000000) (hs : s.size ≤ 1000000) (hb : base ≤ w.heap.size) :
    ∃ v' w', (Builtin.append_ #[79, 9] ty #[v, .string s]).run Try.prog w = .ok v' w' ∧ OwnM base w' v' (L ++ strB s) ∧ w.grownBy w' v.ownBlock := by
  obtain ⟨i5, hi5, hy50, hy51, hy52⟩ := info_parts info5
  rcases h with ⟨rfl, rfl⟩ | ⟨g, cap, cur, fz, rfl, hbg, hg, hfz, hnc, hcm, hcs, htake⟩
  · obtain ⟨v', w', h1, h2, h3, h4⟩ := run_append_own_string (P := Try.prog) w base 79 9 ty 5 i5 Try.underlying79 Try.underlying9 hi5 hy50 hy51 hy52 (.slice none 0 0) 0 [] ⟨rfl, .inl ⟨rfl, rfl⟩⟩ s (by unfold maxLen; omega) (by omega) hb
    refine ⟨v', w', h1, ?_, h3⟩
    rcases h2.2 with ⟨e, e0⟩ | ⟨g, cap, cur, e, e1, e2, e3, e4, e5, e6⟩
    · refine .inl ⟨e, ?_⟩
      apply List.length_eq_zero_iff.1
      show (strB s).length = 0
      rw [strB_len]; omega
    · refine .inr ⟨g, cap, cur, (0, 0), by rw [e]; simp [strB_len], e1, e2, .inl (Nat.le_refl _), by simp [strB_len]; omega, e4, by simpa using e5, ?_⟩
      have : ([] ++ strB s).length = 0 + s.size := by simp [strB_len]
      rw [this, ← Nat.mul_one (0 + s.size), e6, ubs_strB]; rfl
  · by_cases hroom : L.length + s.size ≤ cap
    · have hf := run_firstCells_string (P := Try.prog) w 1 s
      have hst := stores_free Try.prog g L.length 5 fz (strCells s) 0 cur w hg hfz (by simp [strCells_length]; omega) (strCells_oneCell s)
      simp only [Nat.add_zero, strCells_length] at hst
      refine ⟨.slice (some ⟨g, 0, none⟩) (L.length + s.size) cap, w.setRow g (cur.toList.take L.length ++ strCells s ++ cur.toList.drop (L.length + s.size)).toArray, ?_, ?_, ⟨rfl, rfl, rfl, by simp, fun k _ hk => setRow_other w g k _ (fun e => hk (by simp [Value.ownBlock, e]))⟩⟩
      · simp [Builtin.append_, run_underlying Try.underlying79, run_underlying Try.underlying9, sizeOf, typeInfo, hi5, hy51, Builtin.lenOf, hroom, hf, Addr.add_lit, hst]
      · refine .inr ⟨g, cap, _, fz, by simp [strB_len], hbg, setRow_heap w g cur _ 5 _ hg, ?_, by simp [strB_len]; omega, hcm, ?_, ?_⟩
        · rcases hfz with h | h
          · exact .inl h
          · refine .inr ?_
            simp [strCells_length]
            omega
        · simp [strCells_length]
          omega
        · rw [htake]
          have e1 : (L ++ strB s).length = (ubs L ++ strCells s).length := by simp [strB_len, strCells_length, ubs_len]
          simp only [e1]
          rw [List.take_left, ubs_app, ubs_strB]
    · have holds : ∀ j u, (ubs L)[j]? = some u → w.cell? ((⟨g, 0, none⟩ : Addr).add j) = some u := fun j u hu => by
        have hadd : (⟨g, 0, none⟩ : Addr).add j = ⟨g, j, none⟩ := by unfold Addr.add; split <;> simp_all
        rw [hadd, cell_of_row w g j cur 5 fz hg]
        rw [← htake, List.getElem?_take] at hu
        split at hu
        · simpa using hu
        · cases hu
      have hr := run_append_grow_string (P := Try.prog) w 79 9 ty 5 i5 (.int .u8 0) Try.underlying79 Try.underlying9 hi5 hy50 ⟨g, 0, none⟩ L.length cap (ubs L) (by rw [hy51]; simp [ubs_len]) holds s (by omega) (by omega) (by rw [hy52]; exact growslice_fits (by omega) (by omega))
      have hge := grownCap_ge w (L.length + s.size) cap 5
      have hcm2 : grownCap w (L.length + s.size) cap 5 ≤ maxLen := grownCap_le_maxLen w (L.length + s.size) cap 5 (by unfold maxLen; omega)
      refine ⟨_, _, hr, .inr ⟨w.heap.size, grownCap w (L.length + s.size) cap 5, _, (0, 0), by simp [strB_len], hb, heap_alloc_new w.drew _, .inl (Nat.le_refl _), by simp [strB_len]; omega, hcm2, ?_, ?_⟩, ⟨rfl, rfl, rfl, by simp, fun k hk _ => heap_alloc_old w.drew _ hk⟩⟩
      · have hz1 : (Value.int IntKind.u8 0).cells.size = 1 := rfl
        simp only [Array.size_append, List.size_toArray, size_zeroCells, hz1, ubs_len, strCells_length]
        omega
      · simp only [Array.toList_append, List.append_assoc]
        rw [← List.append_assoc]
        have e1 : (L ++ strB s).length = (ubs L ++ strCells s).length := by simp [strB_len, strCells_length, ubs_len]
        rw [e1, List.take_left, ubs_app, ubs_strB]
theorem wpList_appM {ops : Array Oper} {rest : List Oper} {o : Oper} {a : Act} {w : World} {Q : Exit → Act → World → Prop} (hgd : o.guard = none) (sl x : Operand)
    (ho : o.op = .call { callee := .builtin .append, args := #[sl, x], argTypes := #[79, 9] }) (base : Nat) (v : Value) (L : List Nat) (s : ByteArray) (hs : a.eval sl = v) (hx : a.eval x = .string s) (h : OwnM base w v L) (hL : L.length ≤ 1000000) (hss : s.size ≤ 1000000) (hb : base ≤ w.heap.size)
    (hh : ∀ v' w', OwnM base w' v' (L ++ strB s) → w.grownBy w' v.ownBlock → wpList Try.prog ops Q rest (a.put o.dst v') w') : wpList Try.prog ops Q (o :: rest) a w := by
  refine wpList_plain hgd fun K hK => ?_
  obtain ⟨v', w', hr, h2, h3⟩ := run_appM base o.type v L s w h hL hss hb
  unfold Oper.wp execOp
  simp only [ho, resolve, invoke, builtin, Sem.run_bind, Sem.run_pure, Result.andThen_ok, List.map_toArray, List.map_cons, List.map_nil, hs, hx, hr]
  exact hK _ _ (hh v' w' h2 h3)
end Go.Proofs.Ytimhdegdmdilaaa
