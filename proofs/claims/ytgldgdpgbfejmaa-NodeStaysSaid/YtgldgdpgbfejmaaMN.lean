/- Copying, clearing and appending in a row of memory that is known whole, of elements of whatever size: laws of every program. -/
import Derived.Test.YtgldgdpgbfejmaaMT
import Derived.Laws.CopyOwn
import Derived.Laws.CopyRow
import Derived.Laws.IdiomCopy
import Derived.Lib.SliceRun
import Derived.Lib.Overlaps
import Derived.Lib.AppendZerosOnto
import Derived.Deep.RegionLaw
import Derived.Test.YtgldgdpgbfejmaaMP
import Derived.Shelf.RegionOpenPlain
import Derived.Laws.Externs
import Derived.Laws.NewBlocks
namespace Go.Proofs.Ytgldgdpgbfejmaa
open Go.RowKit Go.Lib
set_option linter.unusedVariables false
set_option linter.unusedSimpArgs false

/-- a row with some of its cells replaced -/
def over (cur : Array Value) (o : Nat) (vs : List Value) : Array Value := (splice cur.toList o vs).toArray
theorem over_size (cur : Array Value) (o : Nat) (vs : List Value) (h : o + vs.length ≤ cur.size) : (over cur o vs).size = cur.size := by
  unfold over; rw [List.size_toArray, length_splice _ _ _ (by simpa using h)]; simp
theorem Blk.row {w : World} {g : Nat} {t : TypeId} {cs : Array Value} (h : Blk w g t cs) (cs' : Array Value) : Blk (w.setRow g cs') g t cs' := setRow_heap w g cs cs' t (0, 0) h
theorem Keep.setRow {X : List Nat} {a w : World} (h : Keep X a w) {g : Nat} (hg : g ∈ X) (cs : Array Value) : Keep X a (w.setRow g cs) :=
  h.trans ⟨below_setRow (Below.refl _ _) (Nat.zero_le _) cs, fun i hi hx => setRow_other w g i cs (fun e => hx (e ▸ hg))⟩
theorem Keep.drew {X : List Nat} {a w : World} (h : Keep X a w) : Keep X a w.drew := ⟨h.all.drew, h.block⟩
theorem setCells_row (g : Nat) (t : TypeId) : ∀ (vs : List Value) (o : Nat) (cur : Array Value) (w : World), Blk w g t cur → o + vs.length ≤ cur.size → w.setCells g o vs = w.setRow g (over cur o vs)
  | [], o, cur, w, hg, _ => by
    have e : over cur o [] = cur := by unfold over splice; simp
    rw [e, setRow_self w g cur t (0, 0) hg]; rfl
  | v :: rest, o, cur, w, hg, hl => by
    have hi : o < cur.size := by simp at hl; omega
    have e1 : w.setCell ⟨g, o, none⟩ v = w.setRow g (cur.setIfInBounds o v) := setCell_eq_setRow w g o cur t (0, 0) v hg
    have ih := setCells_row g t rest (o + 1) (cur.setIfInBounds o v) (w.setRow g (cur.setIfInBounds o v)) (hg.row _) (by simp at hl ⊢; omega)
    rw [World.setCells, e1, ih, setRow_setRow]
    congr 1
    unfold over splice
    have e := list_seg_step cur.toList o v rest (by simp at hl ⊢; omega)
    congr 1
    simpa [Array.toList_setIfInBounds, Nat.add_assoc] using e
section
variable {P : Program}
theorem run_copyS (w : World) (dT sT ty elem : TypeId) (size g o dLen dCap : Nat) (a : Addr) (sLen sCap : Nat) (cur : Array Value) (t : TypeId) (cs : List Value)
    (hu : P.underlying dT = some (.slice elem)) (hs : (P.info? elem).map (·.size) = some size) (hg : Blk w g t cur) (hn : cs.length = Nat.min sLen dLen * size)
    (hsrc : ∀ j v, cs[j]? = some v → w.cell? (a.add j) = some v) (hfit : o + cs.length ≤ cur.size) (h1 : ∀ v ∈ cs, v.oneCell' = true) :
    (Builtin.copy_ #[dT, sT] ty #[.slice (some ⟨g, o, none⟩) dLen dCap, .slice (some a) sLen sCap]).run P w = .ok (goInt (Nat.min sLen dLen)) (w.setRow g (over cur o cs)) := by
  have hl := run_loadCells_list (P := P) w a cs hsrc
  have hst := run_storeCells_at P g o t cs 0 cur w hg (by simpa using hfit) h1
  have e : (cur.toList.take (o + 0) ++ cs ++ cur.toList.drop (o + 0 + cs.length)).toArray = over cur o cs := by unfold over splice; simp
  rw [e] at hst
  cases hq : P.info? elem with
  | none => simp [hq] at hs
  | some i =>
    have hi : i.size = size := by simpa [hq] using hs
    simp [Builtin.copy_, run_underlying hu, Builtin.lenOf, Builtin.firstCells, sizeOf, typeInfo, hq, hi, ← hn, hl, hst]
theorem run_clearS (w : World) (t e ty : TypeId) (z : Value) (ht : P.underlying t = some (.slice e)) (hv : ∀ w, (zeroValue e).run P w = .ok z w) (g o n c : Nat) (cur : Array Value) (te : TypeId) (hg : Blk w g te cur) (hn : 0 < n)
    (h1 : ∀ v ∈ (Builtin.zeroCells z.cells n).toList, v.oneCell' = true) (hfit : o + (Builtin.zeroCells z.cells n).toList.length ≤ cur.size) :
    (Builtin.clear_ #[t] ty #[.slice (some ⟨g, o, none⟩) n c]).run P w = .ok (.tuple #[]) (w.setRow g (over cur o (Builtin.zeroCells z.cells n).toList)) := by
  have hst := run_storeCells_at P g o te (Builtin.zeroCells z.cells n).toList 0 cur w hg (by simpa using hfit) h1
  have e : (cur.toList.take (o + 0) ++ (Builtin.zeroCells z.cells n).toList ++ cur.toList.drop (o + 0 + (Builtin.zeroCells z.cells n).toList.length)).toArray = over cur o (Builtin.zeroCells z.cells n).toList := by unfold over splice; simp
  rw [e] at hst
  obtain ⟨m, rfl⟩ : ∃ m, n = m + 1 := ⟨n - 1, by omega⟩
  simp [Builtin.clear_, run_underlying ht, hv, hst]
/-- a copy, its run known -/
theorem wpList_copyR (w : World) {ops : Array Oper} {rest : List Oper} {o : Oper} {a : Act} {Q : Exit → Act → World → Prop} (hgd : o.guard = none) (d s : Operand) (t t' : TypeId)
    (ho : o.op = .call { callee := .builtin .copy, args := #[d, s], argTypes := #[t, t'] }) (v u : Value) (hd : a.eval d = v) (hs : a.eval s = u) {v' : Value} {w' : World}
    (hr : (Builtin.copy_ #[t, t'] o.type #[v, u]).run P w = .ok v' w') (h : wpList P ops Q rest (a.put o.dst v') w') : wpList P ops Q (o :: rest) a w := by
  refine wpList_plain hgd fun K hK => ?_
  unfold Oper.wp
  simp [execOp, ho, resolve, invoke, builtin, hd, hs, hr, Result.andThen]
  exact hK _ _ h
/-- a copy in a region that draws -/
theorem step_copyR {ops : Array Oper} {o : Oper} {a : Act} {w : World} {K : Act → World → Prop} {Q : Exit → Act → World → Prop} {E : Prop} (hgd : o.guard = none) (d s : Operand) (t t' : TypeId)
    (ho : o.op = .call { callee := .builtin .copy, args := #[d, s], argTypes := #[t, t'] }) (v u : Value) (hd : a.eval d = v) (hs : a.eval s = u) {v' : Value} {w' : World}
    (hr : (Builtin.copy_ #[t, t'] o.type #[v, u]).run P w = .ok v' w') (hK : K (a.put o.dst v') w') : if Region.wanted o (yielded ops a.tmps) = true then Oper.wp P o a w K Q else E := by
  rw [if_pos (by simp [Region.wanted, hgd])]
  unfold Oper.wp
  simp [execOp, ho, resolve, invoke, builtin, hd, hs, hr, Result.andThen]
  exact hK
end
theorem addr_at (g off j : Nat) : (⟨g, off, none⟩ : Addr).add j = ⟨g, off + j, none⟩ := by unfold Addr.add; split <;> simp_all
/-- the cells of an owned row: those of its block -/
theorem own_blk {w : World} {base : Nat} {e : TypeId} {size n : Nat} {v : Value} {xs : List Value} (h : w.ownsRow base e size v n xs) (hn : 0 < n) :
    ∃ g cap cur, v = .slice (some ⟨g, 0, none⟩) n cap ∧ base ≤ g ∧ Blk w g e cur ∧ n ≤ cap ∧ cap ≤ maxLen ∧ cur.size = cap * size ∧ cur.toList.take (n * size) = xs := by
  rcases h.2 with ⟨_, h0⟩ | ⟨g, cap, cur, h1, h2, h3, h4⟩
  · omega
  · exact ⟨g, cap, cur, h1, h2, h3, h4⟩
end Go.Proofs.Ytgldgdpgbfejmaa
/- slices.Delete of one element. -/
namespace Go.Proofs.Ytgldgdpgbfejmaa
open Go.RowKit Go.Lib
set_option linter.unusedVariables false
set_option linter.unusedSimpArgs false
theorem zc_pairs : (Builtin.zeroCells (Value.cells (.agg #[.string ByteArray.empty, .string ByteArray.empty])) 1).toList = [.string ByteArray.empty, .string ByteArray.empty] := by
  have e : Value.cells (.agg #[.string ByteArray.empty, .string ByteArray.empty]) = #[.string ByteArray.empty, .string ByteArray.empty] := by simp [Value.cells]
  rw [e]
  apply List.ext_getElem
  · simp [Builtin.zeroCells]
  · intro k h1 h2
    simp [Builtin.zeroCells] at h1
    match k, h1 with
    | 0, _ => simp [Builtin.zeroCells]
    | 1, _ => simp [Builtin.zeroCells]
theorem zc_kids : (Builtin.zeroCells (Value.cells (.pointer none)) 1).toList = [.pointer none] := by
  have e : Value.cells (.pointer none) = #[.pointer none] := by simp [Value.cells]
  rw [e]
  apply List.ext_getElem
  · simp [Builtin.zeroCells]
  · intro k h1 h2
    simp [Builtin.zeroCells] at h1
    match k, h1 with
    | 0, _ => simp [Builtin.zeroCells]
theorem over_take (X : Array Value) (o : Nat) (vs : List Value) (k : Nat) (h : o + vs.length = k) (ho : o ≤ X.size) : (over X o vs).toList.take k = X.toList.take o ++ vs := by
  unfold over splice
  rw [List.take_append, List.take_append, List.take_of_length_le (by simp; omega), List.take_of_length_le (l := vs) (by simp; omega), List.length_take, Array.length_toList, show min o X.size = o by omega, show k - o - vs.length = 0 by omega, List.take_zero, List.append_nil]
theorem over_take_le (X : Array Value) (o : Nat) (vs : List Value) (k : Nat) (h : k ≤ o) (ho : o ≤ X.size) : (over X o vs).toList.take k = X.toList.take k := by
  unfold over splice
  rw [List.take_append_of_le_length (by simp; omega), List.take_take, show min k o = k by omega]
theorem info39 : (Try.prog.info? 39).map (fun i => (i.zero, i.size, i.bytes)) = some (some (.pointer none), 1, 8) := by kernel_rfl

set_option maxRecDepth 100000 in
set_option maxHeartbeats 4000000 in
theorem del_kids (base i j n : Nat) (v : Value) (cs : List Value) (w : World) (h : w.ownsRow base 39 1 v n cs) (hi : i < n) (hij : Hid (j = i + 1)) (hn : n ≤ 1000) (h1 : ∀ u ∈ cs, u.oneCell' = true) :
    Calls Try.prog 75 #[v, .int .i64 i, .int .i64 j] w fun e w' => ∃ g cap, v = .slice (some ⟨g, 0, none⟩) n cap ∧ e = .returned (.slice (some ⟨g, 0, none⟩) (n - 1) cap) ∧ w'.ownsRow base 39 1 (.slice (some ⟨g, 0, none⟩) (n - 1) cap) (n - 1) (cs.take (i * 1) ++ cs.drop ((i + 1) * 1)) ∧ Keep [g] w w' := by
  obtain ⟨i0, hI, hz0, hz1, hz2⟩ := info_parts info39
  have hlen := h.1
  obtain ⟨g, cap, cur, rfl, hg, hB, hc, hcm, hs, ht⟩ := own_blk h (by omega)
  have hmx : cap ≤ 9223372036854775807 := by unfold maxLen at hcm; omega
  have hv23 : ∀ w, (zeroValue 39).run Try.prog w = .ok (.pointer none) w := fun w => by simp [zeroValue, typeInfo, hI, hz0]
  obtain ⟨m, hm⟩ : ∃ m, m = n - j := ⟨_, rfl⟩
  have hji := hij.out
  -- the cells that move
  obtain ⟨news, hnews⟩ : ∃ news, news = cs.drop (j * 1) := ⟨_, rfl⟩
  have hnl : news.length = m * 1 := by rw [hnews, List.length_drop, hlen, hm, Nat.sub_mul]
  have hcell : ∀ t u, news[t]? = some u → w.cell? ⟨g, j * 1 + t, none⟩ = some u := fun t u hu => by
    rw [hnews, List.getElem?_drop, ← ht, List.getElem?_take] at hu
    split at hu
    · rw [hB.cell]; rwa [Array.getElem?_toList] at hu
    · cases hu
  obtain ⟨A, hA, hsrc⟩ : ∃ A : Addr, (if cap = j then some (⟨g, 0, none⟩ : Addr) else some ⟨g, j * 1, none⟩) = some A ∧ Hid (∀ t u, news[t]? = some u → w.drew.cell? (A.add t) = some u) := by
    by_cases hcj : cap = j
    · refine ⟨⟨g, 0, none⟩, by simp [hcj], Lib.hid fun t u hu => ?_⟩
      have h0 : news.length = 0 := by rw [hnl, hm, show n - j = 0 by omega, Nat.zero_mul]
      rw [List.length_eq_zero_iff.1 h0] at hu
      simp at hu
    · refine ⟨⟨g, j * 1, none⟩, by simp [hcj], Lib.hid fun t u hu => ?_⟩
      rw [addr_at]
      exact hcell t u hu
  have hfit1 : i * 1 + news.length ≤ cur.size := by rw [hnl, hs, ← Nat.add_mul]; exact Nat.mul_le_mul_right _ (by omega)
  have hsp : Hid (∀ t, t < news.length → (w.drew.cell? ⟨g, 0 + i * 1 + t, none⟩).isSome = true ∧ w.drew.frozen? ⟨g, 0 + i * 1 + t, none⟩ = false) := Lib.hid fun t ht => by
    refine ⟨?_, hB.frozen _⟩
    show (w.cell? _).isSome = true
    rw [hB.cell, Nat.zero_add, Array.getElem?_eq_getElem (by omega)]; rfl
  have h1n : Hid (∀ u ∈ news, u.oneCell' = true) := Lib.hid fun u hu => h1 u (by rw [hnews] at hu; exact List.mem_of_mem_drop hu)
  -- the world behind the append
  obtain ⟨W1, hW1⟩ : ∃ W1, W1 = w.drew.setCells g (0 + i * 1) news := ⟨_, rfl⟩
  have hW1r : W1 = w.drew.setRow g (over cur (i * 1) news) := by rw [hW1, Nat.zero_add]; exact setCells_row g 39 news _ cur w.drew hB hfit1
  have hB1 : Blk W1 g 39 (over cur (i * 1) news) := by rw [hW1r]; exact Blk.row (w := w.drew) hB _
  have hK1 : Keep [g] w W1 := by rw [hW1r]; exact (Keep.refl [g] w).drew.setRow (by simp) _
  obtain ⟨zs, hzs⟩ : ∃ zs, zs = (Builtin.zeroCells (Value.cells (.pointer none)) 1).toList := ⟨_, rfl⟩
  have hzl : zs.length = 1 := by rw [hzs, zc_kids]; rfl
  have hos := over_size cur (i * 1) news hfit1
  have hfit2 : (i + m) * 1 + zs.length ≤ (over cur (i * 1) news).size := by rw [hos, hzl, hs]; omega
  obtain ⟨R2, hR2⟩ : ∃ R2, R2 = over (over cur (i * 1) news) ((i + m) * 1) zs := ⟨_, rfl⟩
  have hcl : ∀ ty c, (Builtin.clear_ #[31] ty #[.slice (some ⟨g, i + m, none⟩) 1 c]).run Try.prog W1 = .ok (.tuple #[]) (W1.setRow g R2) := fun ty c => by
    have ea : (⟨g, i + m, none⟩ : Addr) = ⟨g, (i + m) * 1, none⟩ := by rw [Nat.mul_one]
    rw [ea]
    rw [hR2, hzs]
    exact run_clearS W1 31 39 ty _ Try.underlying31 hv23 g _ 1 c _ 39 hB1 (by decide) (by intro u hu; rw [zc_kids] at hu; simp at hu; subst hu; rfl) (by rw [← hzs]; exact hfit2)
  have HW1 := Lib.hid hW1
  have e1 : n - (i + m) = 1 := by omega
  have e2 : i + (n - j) = i + m := by omega
  have hic : i ≤ cap := by omega
  have hjc : j ≤ cap := by omega
  have hjn : j ≤ n := by omega
  have hne : ¬ ((i : Int) = (j : Int)) := by omega
  have HT := Lib.hid ht
  have HR2 := Lib.hid hR2
  have HN := Lib.hid hnews
  have HL := Lib.hid hlen
  clear hW1 hW1r hcell hji hnews hv23 hlen hzs hB ht hR2
  have mixed : Try.prog.follows .mixedOrders = true := by kernel_rfl
  simp only [Nat.mul_one] at hA
  go_enter Try.func75, Try.ntmps75
  go_wp2_with fail
  go_region_law_o (refine step_append_room rfl (.tmp 22) (.tmp 25) 31 rfl 39 i0 1 Try.underlying31 hI hz1 g 0 i cap (by simp [Act.eval, Act.put]) A (n - j) (cap - j) news (by simp [Act.eval, Act.put, hA]) (by rw [hnl, hm]) hsrc.out h1n.out (by omega) hsp.out ?_; rw [← HW1.out])
  clear hsrc hsp h1n HW1 hA
  go_wp2_with fail
  go_ret
  refine ⟨g, cap, rfl, by rw [show n - 1 = i + m by omega]; rfl, ?_, hK1.setRow (by simp) _⟩
  have hj2 := hij.out
  refine ⟨?_, .inr ⟨g, cap, _, rfl, hg, hB1.row _, by omega, hcm, by rw [HR2.out, over_size _ _ _ hfit2, hos, hs], ?_⟩⟩
  · rw [List.length_append, List.length_take, List.length_drop, HL.out]; omega
  · rw [HR2.out, show n - 1 = i + m by omega, over_take_le _ _ _ _ (Nat.le_refl _) (by omega), over_take _ _ _ _ (by rw [hnl]; omega) (by omega), ← hj2, ← HN.out, ← HT.out, List.take_take, show min (i * 1) (n * 1) = i * 1 by omega]

set_option maxRecDepth 100000 in
set_option maxHeartbeats 4000000 in
theorem del_pairs (base i j n : Nat) (v : Value) (cs : List Value) (w : World) (h : w.ownsRow base 27 2 v n cs) (hi : i < n) (hij : Hid (j = i + 1)) (hn : n ≤ 1000) (h1 : ∀ u ∈ cs, u.oneCell' = true) :
    Calls Try.prog 62 #[v, .int .i64 i, .int .i64 j] w fun e w' => ∃ g cap, v = .slice (some ⟨g, 0, none⟩) n cap ∧ e = .returned (.slice (some ⟨g, 0, none⟩) (n - 1) cap) ∧ w'.ownsRow base 27 2 (.slice (some ⟨g, 0, none⟩) (n - 1) cap) (n - 1) (cs.take (i * 2) ++ cs.drop ((i + 1) * 2)) ∧ Keep [g] w w' := by
  obtain ⟨i0, hI, hz0, hz1, hz2⟩ := info_parts info33
  have hlen := h.1
  obtain ⟨g, cap, cur, rfl, hg, hB, hc, hcm, hs, ht⟩ := own_blk h (by omega)
  have hmx : cap ≤ 9223372036854775807 := by unfold maxLen at hcm; omega
  have hv23 : ∀ w, (zeroValue 27).run Try.prog w = .ok (.agg #[.string ByteArray.empty, .string ByteArray.empty]) w := fun w => by simp [zeroValue, typeInfo, hI, hz0]
  obtain ⟨m, hm⟩ : ∃ m, m = n - j := ⟨_, rfl⟩
  have hji := hij.out
  -- the cells that move
  obtain ⟨news, hnews⟩ : ∃ news, news = cs.drop (j * 2) := ⟨_, rfl⟩
  have hnl : news.length = m * 2 := by rw [hnews, List.length_drop, hlen, hm, Nat.sub_mul]
  have hcell : ∀ t u, news[t]? = some u → w.cell? ⟨g, j * 2 + t, none⟩ = some u := fun t u hu => by
    rw [hnews, List.getElem?_drop, ← ht, List.getElem?_take] at hu
    split at hu
    · rw [hB.cell]; rwa [Array.getElem?_toList] at hu
    · cases hu
  obtain ⟨A, hA, hsrc⟩ : ∃ A : Addr, (if cap = j then some (⟨g, 0, none⟩ : Addr) else some ⟨g, j * 2, none⟩) = some A ∧ Hid (∀ t u, news[t]? = some u → w.drew.cell? (A.add t) = some u) := by
    by_cases hcj : cap = j
    · refine ⟨⟨g, 0, none⟩, by simp [hcj], Lib.hid fun t u hu => ?_⟩
      have h0 : news.length = 0 := by rw [hnl, hm, show n - j = 0 by omega, Nat.zero_mul]
      rw [List.length_eq_zero_iff.1 h0] at hu
      simp at hu
    · refine ⟨⟨g, j * 2, none⟩, by simp [hcj], Lib.hid fun t u hu => ?_⟩
      rw [addr_at]
      exact hcell t u hu
  have hfit1 : i * 2 + news.length ≤ cur.size := by rw [hnl, hs, ← Nat.add_mul]; exact Nat.mul_le_mul_right _ (by omega)
  have hsp : Hid (∀ t, t < news.length → (w.drew.cell? ⟨g, 0 + i * 2 + t, none⟩).isSome = true ∧ w.drew.frozen? ⟨g, 0 + i * 2 + t, none⟩ = false) := Lib.hid fun t ht => by
    refine ⟨?_, hB.frozen _⟩
    show (w.cell? _).isSome = true
    rw [hB.cell, Nat.zero_add, Array.getElem?_eq_getElem (by omega)]; rfl
  have h1n : Hid (∀ u ∈ news, u.oneCell' = true) := Lib.hid fun u hu => h1 u (by rw [hnews] at hu; exact List.mem_of_mem_drop hu)
  -- the world behind the append
  obtain ⟨W1, hW1⟩ : ∃ W1, W1 = w.drew.setCells g (0 + i * 2) news := ⟨_, rfl⟩
  have hW1r : W1 = w.drew.setRow g (over cur (i * 2) news) := by rw [hW1, Nat.zero_add]; exact setCells_row g 27 news _ cur w.drew hB hfit1
  have hB1 : Blk W1 g 27 (over cur (i * 2) news) := by rw [hW1r]; exact Blk.row (w := w.drew) hB _
  have hK1 : Keep [g] w W1 := by rw [hW1r]; exact (Keep.refl [g] w).drew.setRow (by simp) _
  obtain ⟨zs, hzs⟩ : ∃ zs, zs = (Builtin.zeroCells (Value.cells (.agg #[.string ByteArray.empty, .string ByteArray.empty])) 1).toList := ⟨_, rfl⟩
  have hzl : zs.length = 2 := by rw [hzs, zc_pairs]; rfl
  have hos := over_size cur (i * 2) news hfit1
  have hfit2 : (i + m) * 2 + zs.length ≤ (over cur (i * 2) news).size := by rw [hos, hzl, hs]; omega
  obtain ⟨R2, hR2⟩ : ∃ R2, R2 = over (over cur (i * 2) news) ((i + m) * 2) zs := ⟨_, rfl⟩
  have hcl : ∀ ty c, (Builtin.clear_ #[40] ty #[.slice (some ⟨g, (i + m) * 2, none⟩) 1 c]).run Try.prog W1 = .ok (.tuple #[]) (W1.setRow g R2) := fun ty c => by
    rw [hR2, hzs]
    exact run_clearS W1 40 27 ty _ Try.underlying40 hv23 g _ 1 c _ 27 hB1 (by decide) (by intro u hu; rw [zc_pairs] at hu; simp at hu; subst hu; rfl) (by rw [← hzs]; exact hfit2)
  have HW1 := Lib.hid hW1
  have e1 : n - (i + m) = 1 := by omega
  have e2 : i + (n - j) = i + m := by omega
  have hic : i ≤ cap := by omega
  have hjc : j ≤ cap := by omega
  have hjn : j ≤ n := by omega
  have hne : ¬ ((i : Int) = (j : Int)) := by omega
  have HT := Lib.hid ht
  have HR2 := Lib.hid hR2
  have HN := Lib.hid hnews
  have HL := Lib.hid hlen
  clear hW1 hW1r hcell hji hnews hv23 hlen hzs hB ht hR2
  have mixed : Try.prog.follows .mixedOrders = true := by kernel_rfl
  go_enter Try.func62, Try.ntmps62
  go_wp2_with fail
  go_region_law_o (refine step_append_room rfl (.tmp 22) (.tmp 25) 40 rfl 27 i0 2 Try.underlying40 hI hz1 g 0 i cap (by simp [Act.eval, Act.put]) A (n - j) (cap - j) news (by simp [Act.eval, Act.put, hA]) (by rw [hnl, hm]) hsrc.out h1n.out (by omega) hsp.out ?_; rw [← HW1.out])
  clear hsrc hsp h1n HW1 hA
  go_wp2_with fail
  go_ret
  refine ⟨g, cap, rfl, by rw [show n - 1 = i + m by omega]; rfl, ?_, hK1.setRow (by simp) _⟩
  have hj2 := hij.out
  refine ⟨?_, .inr ⟨g, cap, _, rfl, hg, hB1.row _, by omega, hcm, by rw [HR2.out, over_size _ _ _ hfit2, hos, hs], ?_⟩⟩
  · rw [List.length_append, List.length_take, List.length_drop, HL.out]; omega
  · rw [HR2.out, show n - 1 = i + m by omega, over_take_le _ _ _ _ (Nat.le_refl _) (by omega), over_take _ _ _ _ (by rw [hnl]; omega) (by omega), ← hj2, ← HN.out, ← HT.out, List.take_take, show min (i * 2) (n * 2) = i * 2 by omega]
end Go.Proofs.Ytgldgdpgbfejmaa
/- slices.Insert into a row that is known whole. -/
namespace Go.Proofs.Ytgldgdpgbfejmaa
open Go.RowKit Go.Lib
set_option linter.unusedVariables false
set_option linter.unusedSimpArgs false
theorem over_drop (X : Array Value) (o : Nat) (vs : List Value) (h : o + vs.length ≤ X.size ∨ o ≤ X.size) : (over X o vs).toList.drop (o + vs.length) = X.toList.drop (o + vs.length) := by
  unfold over splice
  have ho : o ≤ X.size := by omega
  rw [List.drop_append, List.drop_append, List.drop_of_length_le (by simp; omega), List.drop_of_length_le (l := vs) (by simp; omega), List.length_take, show min o X.toList.length = o by simp; omega, show o + vs.length - o - vs.length = 0 by omega, List.drop_zero, List.nil_append, List.nil_append]
theorem over_mid (X : Array Value) (o : Nat) (vs : List Value) (k : Nat) (h : k = vs.length) (hf : o + k ≤ X.size) : ((over X o vs).toList.drop o).take k = vs := by
  unfold over splice
  rw [List.drop_append, List.drop_of_length_le (by simp; omega), List.length_take, Array.length_toList, show min o X.size = o by omega, Nat.sub_self, List.drop_zero, List.nil_append, List.take_append_of_le_length (by omega), List.take_of_length_le (by omega)]
theorem zsz_pairs : (Value.cells (.agg #[.string ByteArray.empty, .string ByteArray.empty])).size = 2 := by simp [Value.cells]
theorem zsz_kids : (Value.cells (.pointer none)).size = 1 := by simp [Value.cells]

/-- what slices.Insert leaves -/
def InsPost27 (base i n m : Nat) (v : Value) (cs el : List Value) (w : World) (e : Ending) (w' : World) : Prop :=
  ∃ v', e = .returned v' ∧ w'.ownsRow base 27 2 v' (n + m) (cs.take (i * 2) ++ (el ++ cs.drop (i * 2))) ∧ (v'.ownBlock = v.ownBlock ∨ v'.ownBlock = some w.heap.size) ∧ Keep v.ownBlock.toList w w'
set_option maxRecDepth 100000 in
set_option maxHeartbeats 4000000 in
theorem ins_pairs_shift (base i n m vb : Nat) (v : Value) (cs el : List Value) (w : World) (h : w.ownsRow base 27 2 v n cs) (hi : i < n) (hm : 0 < m) (hn : n + m ≤ 1000) (h1 : ∀ u ∈ cs, u.oneCell' = true) (h1e : ∀ u ∈ el, u.oneCell' = true)
    (hv : Blk w vb 27 el.toArray) (hel : el.length = m * 2) (hne : v.ownBlock ≠ some vb) (g cap : Nat) (hvv : v = .slice (some ⟨g, 0, none⟩) n cap) (hroom : n + m ≤ cap) :
    Calls Try.prog 79 #[v, .int .i64 i, .slice (some ⟨vb, 0, none⟩) m m] w (InsPost27 base i n m v cs el w) := by
  obtain ⟨i0, hI, hz0, hz1, hz2⟩ := info_parts info33
  have hlen := h.1
  obtain ⟨g', cap', cur, hv', hg, hB, hc, hcm, hs, ht⟩ := own_blk h (by omega)
  subst hvv
  simp only [Value.slice.injEq, Option.some.injEq, Addr.mk.injEq, and_true, true_and] at hv'
  obtain ⟨rfl, rfl⟩ := hv'
  have hvg : vb ≠ g := fun e => hne (by rw [e]; rfl)
  have hmx : cap ≤ 9223372036854775807 := by unfold maxLen at hcm; omega
  have hsz : (Try.prog.info? 27).map (·.size) = some 2 := by rw [hI]; simp [hz1]
  have hsz' : ∀ w, (Go.sizeOf 27).run Try.prog w = .ok 2 w := fun w => by simp [sizeOf, typeInfo, hI, hz1]
  have hq1 : ¬ ((m : Int) = 0) := by omega
  have hq2 : ¬ ((i : Int) = (n : Int)) := by omega
  have hov : ∀ lb cb, (callFunc 84 #[.slice (some ⟨vb, 0, none⟩) m m, .slice (some ⟨g, (i + m) * 2, none⟩) lb cb]).run Try.prog w = .ok (.value (.bool false)) w := fun lb cb => by
    have hshv : w.shape? vb = some (27, el.toArray.size) := by have h' := hv; unfold Blk at h'; simp [World.shape?, h']
    have hshg : w.shape? g = some (27, cur.size) := by have h' := hB; unfold Blk at h'; simp [World.shape?, h']
    rw [run_callFunc_extern Try.func84 (by kernel_rfl) (by kernel_rfl) (by kernel_rfl) (e := Extern.SlicesOverlaps.overlaps #[40, 40] #[4]) (by kernel_rfl),
      Lib.run_overlaps_apart w 40 4 27 Try.underlying40 2 hsz' ⟨vb, 0, none⟩ ⟨g, (i + m) * 2, none⟩ m m lb cb hvg _ _ _ _ hshv hshg (by rw [hs]; omega) (hv.frozen _) (hv.frozen _)]
    rfl
  obtain ⟨D, hD⟩ : ∃ D, D = cs.drop (i * 2) := ⟨_, rfl⟩
  have hDl : D.length = (n - i) * 2 := by rw [hD, List.length_drop, hlen, Nat.sub_mul]
  have hDc : ∀ j u, D[j]? = some u → w.cell? ⟨g, i * 2 + j, none⟩ = some u := fun j u hu => by
    rw [hD, List.getElem?_drop, ← ht, List.getElem?_take] at hu
    split at hu
    · rw [hB.cell]; rwa [Array.getElem?_toList] at hu
    · cases hu
  have hf1 : (i + m) * 2 + D.length ≤ cur.size := by rw [hDl, hs, ← Nat.add_mul]; exact Nat.mul_le_mul_right _ (by omega)
  obtain ⟨R1, hR1⟩ : ∃ R1, R1 = over cur ((i + m) * 2) D := ⟨_, rfl⟩
  have hR1s : R1.size = cur.size := by rw [hR1]; exact over_size _ _ _ hf1
  have hcp1 : ∀ ty dc sc, (Builtin.copy_ #[40, 40] ty #[.slice (some ⟨g, (i + m) * 2, none⟩) (n + m - (i + m)) dc, .slice (some ⟨g, (i) * 2, none⟩) (n + m - i) sc]).run Try.prog w.drew = .ok (goInt ((n - i : Nat) : Int)) (w.drew.setRow g R1) := fun ty dc sc => by
    have e := run_copyS (P := Try.prog) w.drew 40 40 ty 27 2 g ((i + m) * 2) (n + m - (i + m)) dc ⟨g, i * 2, none⟩ (n + m - i) sc cur 27 D Try.underlying40 hsz hB
      (by rw [hDl]; congr 1; simp only [Nat.min_def]; split <;> omega) (fun j u hu => by rw [addr_at]; exact hDc j u hu) hf1 (fun u hu => h1 u (by rw [hD] at hu; exact List.mem_of_mem_drop hu))
    rw [show Nat.min (n + m - i) (n + m - (i + m)) = n - i by simp only [Nat.min_def]; split <;> omega, ← hR1] at e
    simpa only [Nat.mul_one] using e
  have hB1 : Blk (w.drew.setRow g R1) g 27 R1 := Blk.row (w := w.drew) hB _
  have hK1 : Keep [g] w (w.drew.setRow g R1) := (Keep.refl [g] w).drew.setRow (by simp) _
  have hv1 : Blk (w.drew.setRow g R1) vb 27 el.toArray := hv.keep hK1 (by simpa using hvg)
  have hf2 : i * 2 + el.length ≤ R1.size := by rw [hel, hR1s, hs, ← Nat.add_mul]; exact Nat.mul_le_mul_right _ (by omega)
  obtain ⟨R2, hR2⟩ : ∃ R2, R2 = over R1 (i * 2) el := ⟨_, rfl⟩
  have hR2s : R2.size = cur.size := by rw [hR2, over_size _ _ _ hf2]; exact hR1s
  obtain ⟨W1, hW1⟩ : ∃ W1, W1 = w.drew.setRow g R1 := ⟨_, rfl⟩
  rw [← hW1] at hB1 hK1 hv1 hcp1
  have hcp2 : ∀ ty dc, (Builtin.copy_ #[40, 40] ty #[.slice (some ⟨g, (i) * 2, none⟩) (n + m - i) dc, .slice (some ⟨vb, 0, none⟩) m m]).run Try.prog W1 = .ok (goInt m) (W1.setRow g R2) := fun ty dc => by
    have e := run_copyS (P := Try.prog) W1 40 40 ty 27 2 g (i * 2) (n + m - i) dc ⟨vb, 0, none⟩ m m R1 27 el Try.underlying40 hsz hB1
      (by rw [hel]; congr 1; simp only [Nat.min_def]; split <;> omega) (fun j u hu => by rw [addr_at, Nat.zero_add, hv1.cell]; simpa using hu) hf2 h1e
    rw [show Nat.min m (n + m - i) = m by simp only [Nat.min_def]; split <;> omega, ← hR2] at e
    simpa only [Nat.mul_one] using e
  have hw1 : IntKind.i64.wrap ((i : Int) + (m : Int)) = (i : Int) + (m : Int) := IntWalk.i64_in _ (by omega)
  have hb1 : (0 : Int) ≤ (i : Int) + (m : Int) := by omega
  have hin : i ≤ n := by omega
  have htn : ((i : Int) + (m : Int)).toNat = i + m := by omega
  have hb2 : ¬ (cap = i + m) := by omega
  have hb3 : (i : Int) ≤ (n : Int) + (m : Int) := by omega
  have hb4 : ¬ (cap = i) := by omega
  have HT := Lib.hid ht
  have HD := Lib.hid hD
  have HL := Lib.hid hlen
  have HR1 := Lib.hid hR1
  have HR2 := Lib.hid hR2
  have HS := Lib.hid hs
  have HE := Lib.hid hel
  have HDL := Lib.hid hDl
  clear hW1 hR1 hR2 hD ht hlen hsz hsz' hDc hs hB hv hv1 h hne hel hDl
  have mixed : Try.prog.follows .mixedOrders = true := by kernel_rfl
  go_enter Try.func79, Try.ntmps79
  go_wp2_with (simp only [hov])
  go_region_law_o (refine step_copyR rfl _ _ 40 40 rfl _ _ (by simp [Act.eval, Act.put]) (by simp [Act.eval, Act.put]) (hcp1 _ _ _) ?_)
  go_wp2_with (refine wpList_copyR _ rfl _ _ 40 40 rfl _ _ rfl rfl (hcp2 _ _) ?_)
  go_ret
  refine ⟨.slice (some ⟨g, 0, none⟩) (n + m) cap, rfl, ⟨?_, .inr ⟨g, cap, R2, rfl, hg, hB1.row R2, hroom, hcm, by rw [hR2s, HS.out], ?_⟩⟩, .inl rfl, hK1.setRow (by simp) _⟩
  · rw [List.length_append, List.length_append, List.length_take, List.length_drop, HL.out, HE.out]; omega
  · have e1 : R2.toList.take (i * 2 + el.length) = R1.toList.take (i * 2) ++ el := by rw [HR2.out]; exact over_take _ _ _ _ rfl (by rw [hR1s, HS.out]; omega)
    have e2 : R2.toList.take ((n + m) * 2) = R2.toList.take (i * 2 + el.length) ++ (R2.toList.drop (i * 2 + el.length)).take ((n - i) * 2) := by
      rw [← List.take_add, HE.out]; congr 1; omega
    have e3 : R2.toList.drop (i * 2 + el.length) = R1.toList.drop (i * 2 + el.length) := by rw [HR2.out]; exact over_drop _ _ _ (by omega)
    have e4 : (R1.toList.drop (i * 2 + el.length)).take ((n - i) * 2) = D := by
      rw [HR1.out, HE.out, ← Nat.add_mul]; exact over_mid _ _ _ _ HDL.out.symm (by rw [HDL.out] at hf1; omega)
    have e5 : R1.toList.take (i * 2) = cs.take (i * 2) := by
      rw [HR1.out, over_take_le _ _ _ _ (by omega) (by omega), ← HT.out, List.take_take, show min (i * 2) (n * 2) = i * 2 by omega]
    rw [e2, e3, e4, e1, e5, HD.out, List.append_assoc]
set_option maxRecDepth 100000 in
set_option maxHeartbeats 4000000 in
theorem ins_pairs_grow (base i n m vb : Nat) (v : Value) (cs el : List Value) (w : World) (h : w.ownsRow base 27 2 v n cs) (hi : i < n) (hm : 0 < m) (hn : n + m ≤ 1000) (h1 : ∀ u ∈ cs, u.oneCell' = true) (h1e : ∀ u ∈ el, u.oneCell' = true)
    (hv : Blk w vb 27 el.toArray) (hel : el.length = m * 2) (hbase : base ≤ w.heap.size) (g cap : Nat) (hvv : v = .slice (some ⟨g, 0, none⟩) n cap) (hroom : cap < n + m) :
    Calls Try.prog 79 #[v, .int .i64 i, .slice (some ⟨vb, 0, none⟩) m m] w (InsPost27 base i n m v cs el w) := by
  obtain ⟨i0, hI, hz0, hz1, hz2⟩ := info_parts info33
  have hlen := h.1
  obtain ⟨g', cap', cur, hv', hg, hB, hc, hcm, hs, ht⟩ := own_blk h (by omega)
  subst hvv
  simp only [Value.slice.injEq, Option.some.injEq, Addr.mk.injEq, and_true, true_and] at hv'
  obtain ⟨rfl, rfl⟩ := hv'
  have hsz : (Try.prog.info? 27).map (·.size) = some 2 := by rw [hI]; simp [hz1]
  have hq1 : ¬ ((m : Int) = 0) := by omega
  have hq2 : ¬ ((i : Int) = (n : Int)) := by omega
  have hq3 : (cap : Int) < (n : Int) + (m : Int) := by omega
  have hkk : (n : Int) + (m : Int) - (i : Int) = ((n + m - i : Nat) : Int) := by omega
  have hik : i + (n + m - i) = n + m := by omega
  have hcc : ∀ j u, cs[j]? = some u → w.cell? ⟨g, j, none⟩ = some u := fun j u hu => by
    rw [← ht, List.getElem?_take] at hu
    split at hu
    · rw [hB.cell]; rwa [Array.getElem?_toList] at hu
    · cases hu
  have hold : (Builtin.firstCells i0.size i (.slice (some ⟨g, 0, none⟩) i cap)).run Try.prog w.drew = .ok (cs.take (i * 2)).toArray w.drew := by
    rw [hz1]
    refine run_firstCells_some w.drew 2 i ⟨g, 0, none⟩ i cap (cs.take (i * 2)) (by rw [List.length_take, hlen]; omega) (fun j u hj => ?_)
    rw [addr_at, Nat.zero_add]
    rw [List.getElem?_take] at hj
    split at hj
    · exact hcc j u hj
    · cases hj
  have hrz : ∀ ty, (Builtin.append_ #[40, 3] ty #[.slice (some ⟨g, 0, none⟩) i cap, .int .i64 ((n : Int) + (m : Int) - (i : Int))]).run Try.prog w =
      .ok (.slice (some ⟨w.heap.size, 0, none⟩) (n + m) (grownCap w (n + m) cap 27)) (w.drew.alloc (.cells ((cs.take (i * 2)).toArray ++ Builtin.zeroCells (Value.cells (.agg #[.string ByteArray.empty, .string ByteArray.empty])) (n + m - i) ++ Builtin.zeroCells (Value.cells (.agg #[.string ByteArray.empty, .string ByteArray.empty])) (grownCap w (n + m) cap 27 - (n + m))) 27)) := fun ty => by
    have h := Lib.run_append_grow_zeros (P := Try.prog) w 40 3 ty 27 i0 _ .i64 .i64 Try.underlying40 Try.underlying3 hI hz0 (some ⟨g, 0, none⟩) i cap (cs.take (i * 2)) hold (n + m - i) (by omega) (by omega) (by omega) (by omega) (by rw [hz2]; omega) (by rw [hz2, hik]; exact growslice_fits hroom (by omega))
    rw [hik] at h
    rw [hkk]
    exact h
  have hcg := grownCap_ge w (n + m) cap 27
  have hcgm := grownCap_le_maxLen w (n + m) cap 27 (by unfold maxLen; omega)
  generalize grownCap w (n + m) cap 27 = G at *
  obtain ⟨ROW, hROW⟩ : ∃ ROW : Array Value, ROW = (cs.take (i * 2)).toArray ++ Builtin.zeroCells (Value.cells (.agg #[.string ByteArray.empty, .string ByteArray.empty])) (n + m - i) ++ Builtin.zeroCells (Value.cells (.agg #[.string ByteArray.empty, .string ByteArray.empty])) (G - (n + m)) := ⟨_, rfl⟩
  rw [← hROW] at hrz
  have hRs : ROW.size = G * 2 := by
    rw [hROW, Array.size_append, Array.size_append, List.size_toArray, List.length_take, hlen]
    simp only [Builtin.zeroCells, Array.size_map, Array.size_range, zsz_pairs]
    omega
  have hRt : ROW.toList.take (i * 2) = cs.take (i * 2) := by
    have e : ROW.toList = cs.take (i * 2) ++ ((Builtin.zeroCells (Value.cells (.agg #[.string ByteArray.empty, .string ByteArray.empty])) (n + m - i)).toList ++ (Builtin.zeroCells (Value.cells (.agg #[.string ByteArray.empty, .string ByteArray.empty])) (G - (n + m))).toList) := by rw [hROW]; simp
    rw [e, List.take_append_of_le_length (by rw [List.length_take, hlen]; omega), List.take_take, Nat.min_self]
  obtain ⟨N, hN⟩ : ∃ N, N = w.heap.size := ⟨_, rfl⟩
  rw [← hN] at hrz hbase
  obtain ⟨W1, hW1⟩ : ∃ W1, W1 = w.drew.alloc (.cells ROW 27) := ⟨_, rfl⟩
  have hBN : Blk W1 N 27 ROW := by rw [hW1, hN]; exact Blk.new w.drew 27 ROW
  have hK0 : Keep [N] w W1 := by rw [hW1]; exact (Keep.refl [N] w).drew.alloc _
  have hbl := hB.lt
  have hvl := hv.lt
  have hB1 : Blk W1 g 27 cur := hB.keep hK0 (by simp; omega)
  have hv1 : Blk W1 vb 27 el.toArray := hv.keep hK0 (by simp; omega)
  obtain ⟨D, hD⟩ : ∃ D, D = cs.drop (i * 2) := ⟨_, rfl⟩
  have hDl : D.length = (n - i) * 2 := by rw [hD, List.length_drop, hlen, Nat.sub_mul]
  obtain ⟨R1, hR1⟩ : ∃ R1, R1 = over ROW (i * 2) el := ⟨_, rfl⟩
  have hf1 : i * 2 + el.length ≤ ROW.size := by rw [hel, hRs, ← Nat.add_mul]; exact Nat.mul_le_mul_right _ (by omega)
  have hR1s : R1.size = ROW.size := by rw [hR1]; exact over_size _ _ _ hf1
  have hf2 : (i + m) * 2 + D.length ≤ R1.size := by rw [hDl, hR1s, hRs, ← Nat.add_mul]; exact Nat.mul_le_mul_right _ (by omega)
  obtain ⟨R2, hR2⟩ : ∃ R2, R2 = over R1 ((i + m) * 2) D := ⟨_, rfl⟩
  have hR2s : R2.size = ROW.size := by rw [hR2, over_size _ _ _ hf2]; exact hR1s
  have hcpA : ∀ (W : World), W.heap = W1.heap → ∀ ty dc, (Builtin.copy_ #[40, 40] ty #[.slice (some ⟨N, (i) * 2, none⟩) (n + m - i) dc, .slice (some ⟨vb, 0, none⟩) m m]).run Try.prog W = .ok (goInt m) (W.setRow N R1) := fun W hW ty dc => by
    have hbn : Blk W N 27 ROW := by unfold Blk; rw [hW]; exact hBN
    have hbv : Blk W vb 27 el.toArray := by unfold Blk; rw [hW]; exact hv1
    have e := run_copyS (P := Try.prog) W 40 40 ty 27 2 N (i * 2) (n + m - i) dc ⟨vb, 0, none⟩ m m ROW 27 el Try.underlying40 hsz hbn
      (by rw [hel]; congr 1; simp only [Nat.min_def]; split <;> omega) (fun j u hu => by rw [addr_at, Nat.zero_add, hbv.cell]; simpa using hu) hf1 h1e
    rw [show Nat.min m (n + m - i) = m by simp only [Nat.min_def]; split <;> omega, ← hR1] at e
    simpa only [Nat.mul_one] using e
  have hcpB : ∀ (W : World), W.heap = (W1.setRow N R1).heap → ∀ ty dc sc, (Builtin.copy_ #[40, 40] ty #[.slice (some ⟨N, (i + m) * 2, none⟩) (n + m - (i + m)) dc, .slice (some ⟨g, (i) * 2, none⟩) (n - i) sc]).run Try.prog W = .ok (goInt ((n - i : Nat) : Int)) (W.setRow N R2) := fun W hW ty dc sc => by
    have hbn : Blk W N 27 R1 := by unfold Blk; rw [hW]; exact hBN.row R1
    have hbg : Blk W g 27 cur := by unfold Blk; rw [hW]; exact hB1.keep ((Keep.refl [N] W1).setRow (by simp) R1) (by simp; omega)
    have e := run_copyS (P := Try.prog) W 40 40 ty 27 2 N ((i + m) * 2) (n + m - (i + m)) dc ⟨g, i * 2, none⟩ (n - i) sc R1 27 D Try.underlying40 hsz hbn
      (by rw [hDl]; congr 1; simp only [Nat.min_def]; split <;> omega) (fun j u hu => by
        rw [addr_at, hbg.cell]
        rw [hD, List.getElem?_drop] at hu
        have := hcc _ u hu
        rwa [hB.cell] at this) hf2 (fun u hu => h1 u (by rw [hD] at hu; exact List.mem_of_mem_drop hu))
    rw [show Nat.min (n - i) (n + m - (i + m)) = n - i by simp only [Nat.min_def]; split <;> omega, ← hR2] at e
    simpa only [Nat.mul_one] using e
  have hG63 : G ≤ 9223372036854775807 := by unfold maxLen at hcgm; omega
  have hGi : ¬ (G = i) := by omega
  have hGim : ¬ (G = i + m) := by omega
  have hci : ¬ (cap = i) := by omega
  have hw1 : IntKind.i64.wrap ((i : Int) + (m : Int)) = (i : Int) + (m : Int) := IntWalk.i64_in _ (by omega)
  have hb1 : (0 : Int) ≤ (i : Int) + (m : Int) := by omega
  have hin : i ≤ n := by omega
  have htn : ((i : Int) + (m : Int)).toNat = i + m := by omega
  have hb3 : (i : Int) ≤ (n : Int) := by omega
  have HBe : Below w.heap.size w W1 := by rw [hW1]; exact ((Below.refl _ w).drew).alloc (Nat.le_refl _) _
  have HN := Lib.hid hN
  have HD := Lib.hid hD
  have HL := Lib.hid hlen
  have HR1 := Lib.hid hR1
  have HR2 := Lib.hid hR2
  have HRS := Lib.hid hRs
  have HRT := Lib.hid hRt
  have HE := Lib.hid hel
  have HDL := Lib.hid hDl
  have hE1 : ((w.alloc (.cells ROW 27)).drew).heap = W1.heap := by rw [hW1]; rfl
  have hE2 : (((w.alloc (.cells ROW 27)).drew.setRow N R1).drew).heap = (W1.setRow N R1).heap := by rw [hW1]; rfl
  have hE3 : (((w.alloc (.cells ROW 27)).drew.setRow N R1).drew.setRow N R2).heap = ((W1.setRow N R1).setRow N R2).heap := by rw [hW1]; rfl
  have HW1 := Lib.hid hW1
  rw [hW1] at hcpA hcpB hE1 hE2
  have HE3 := Lib.hid hE3
  clear hkk hik hold hROW hRt hRs hN hD hlen hR1 hR2 hel hDl hW1 hv1 hB1 hB hv ht hs h hcc hsz hE3
  have mixed : Try.prog.follows .mixedOrders = true := by kernel_rfl
  go_enter Try.func79, Try.ntmps79
  go_wp2_with (first
    | (at_builtin; refine Lib.wpList_append_run _ rfl _ _ _ _ rfl _ _ rfl rfl _ _ (hrz _) ?_)
    | (refine wpList_copyR _ rfl _ _ 40 40 rfl _ _ rfl rfl (hcpA _ hE1 _ _) ?_))
  go_region_law_o (refine step_copyR rfl _ _ 40 40 rfl (.slice (some ⟨N, (i + m) * 2, none⟩) (n + m - (i + m)) (G - (i + m))) (.slice (some ⟨g, (i) * 2, none⟩) (n - i) (cap - i)) (by simp [Act.eval, Act.put]) (by simp [Act.eval, Act.put]) (hcpB _ hE2 3 (G - (i + m)) (cap - i)) ?_)
  go_wp2_with fail
  go_ret
  refine ⟨.slice (some ⟨N, 0, none⟩) (n + m) G, rfl, ⟨?_, .inr ⟨N, G, R2, rfl, hbase, ?_, hcg, hcgm, by rw [hR2s, HRS.out], ?_⟩⟩, .inr (by rw [← HN.out]; rfl), Keep.of_below (below_setRow ((below_setRow (((Below.refl w.heap.size w).alloc (Nat.le_refl _) _).drew) (by rw [HN.out]; exact Nat.le_refl _) _).drew) (by rw [HN.out]; exact Nat.le_refl _) _)⟩
  · rw [List.length_append, List.length_append, List.length_take, List.length_drop, HL.out, HE.out]; omega
  · have hb : Blk ((W1.setRow N R1).setRow N R2) N 27 R2 := (hBN.row R1).row R2
    unfold Blk at hb
    rw [← HE3.out] at hb
    exact hb
  · have e1 : R2.toList.take ((n + m) * 2) = R1.toList.take ((i + m) * 2) ++ D := by
      rw [HR2.out]; exact over_take _ _ _ _ (by rw [HDL.out, ← Nat.add_mul]; congr 1; omega) (by rw [hR1s, HRS.out]; exact Nat.mul_le_mul_right _ (by omega))
    have e2 : R1.toList.take ((i + m) * 2) = ROW.toList.take (i * 2) ++ el := by
      rw [HR1.out]; exact over_take _ _ _ _ (by rw [HE.out, ← Nat.add_mul]) (by rw [HRS.out]; exact Nat.mul_le_mul_right _ (by omega))
    rw [e1, e2, HRT.out, HD.out, List.append_assoc]
set_option maxRecDepth 100000 in
set_option maxHeartbeats 4000000 in
theorem ins_pairs_end (base n m vb : Nat) (v : Value) (cs el : List Value) (w : World) (h : w.ownsRow base 27 2 v n cs) (hm : 0 < m) (hn : n + m ≤ 1000) (h1e : ∀ u ∈ el, u.oneCell' = true)
    (hv : Blk w vb 27 el.toArray) (hel : el.length = m * 2) (hbase : base ≤ w.heap.size) :
    Calls Try.prog 79 #[v, .int .i64 n, .slice (some ⟨vb, 0, none⟩) m m] w (InsPost27 base n n m v cs el w) := by
  obtain ⟨i0, hI, hz0, hz1, hz2⟩ := info_parts info33
  have hq1 : ¬ ((m : Int) = 0) := by omega
  have hlen := Lib.hid h.1
  have hge := own_ge h
  obtain ⟨A, cap, hvv, hcap⟩ : ∃ A cap, v = .slice A n cap ∧ n ≤ cap := by
    rcases h.2 with ⟨h1, h2⟩ | ⟨g, cap, cur, h1, _, _, h3, _⟩
    · exact ⟨none, 0, by rw [h1, h2], by omega⟩
    · exact ⟨_, cap, h1, h3⟩
  have hcv : ∀ j u, el[j]? = some u → w.cell? ((⟨vb, 0, none⟩ : Addr).add j) = some u := fun j u hu => by rw [addr_at, Nat.zero_add, hv.cell]; simpa using hu
  subst hvv
  clear hv
  by_cases hcn : cap = n
  · subst hcn
    go_enter Try.func79, Try.ntmps79
    go_wp2_with (at_builtin; refine wpList_append_own_at _ rfl _ _ 40 rfl base 27 i0 _ 2 32 Try.underlying40 hI hz0 hz1 hz2 zsz_pairs (by decide) (.slice A cap cap) cap cs rfl h ⟨vb, 0, none⟩ m m el rfl hel hcv h1e (by unfold maxLen; omega) (by omega) hbase ?_; intro v' wa hown' hgrow hnil hat)
    go_ret
    refine ⟨v', rfl, ?_, hat, ⟨⟨hgrow.os, hgrow.tape, hgrow.output, hgrow.size, fun i hi => by omega⟩, fun i hi hx => hgrow.block i hi (fun e => hx (by rw [← e]; simp))⟩⟩
    rw [List.take_of_length_le (by rw [hlen.out]; exact Nat.le_refl _), List.drop_of_length_le (by rw [hlen.out]; exact Nat.le_refl _), List.append_nil]
    exact hown'
  · go_enter Try.func79, Try.ntmps79
    go_wp2_with (at_builtin; refine wpList_append_own_at _ rfl _ _ 40 rfl base 27 i0 _ 2 32 Try.underlying40 hI hz0 hz1 hz2 zsz_pairs (by decide) (.slice A n cap) n cs rfl h ⟨vb, 0, none⟩ m m el rfl hel hcv h1e (by unfold maxLen; omega) (by omega) hbase ?_; intro v' wa hown' hgrow hnil hat)
    go_ret
    refine ⟨v', rfl, ?_, hat, ⟨⟨hgrow.os, hgrow.tape, hgrow.output, hgrow.size, fun i hi => by omega⟩, fun i hi hx => hgrow.block i hi (fun e => hx (by rw [← e]; simp))⟩⟩
    rw [List.take_of_length_le (by rw [hlen.out]; exact Nat.le_refl _), List.drop_of_length_le (by rw [hlen.out]; exact Nat.le_refl _), List.append_nil]
    exact hown'
theorem ins_pairs (base i n m vb : Nat) (v : Value) (cs el : List Value) (w : World) (h : w.ownsRow base 27 2 v n cs) (hi : i ≤ n) (hm : 0 < m) (hn : n + m ≤ 1000) (h1 : ∀ u ∈ cs, u.oneCell' = true) (h1e : ∀ u ∈ el, u.oneCell' = true)
    (hv : Blk w vb 27 el.toArray) (hel : el.length = m * 2) (hbase : base ≤ w.heap.size) (hne : v.ownBlock ≠ some vb) :
    Calls Try.prog 79 #[v, .int .i64 i, .slice (some ⟨vb, 0, none⟩) m m] w (InsPost27 base i n m v cs el w) := by
  rcases Nat.lt_or_eq_of_le hi with hlt | rfl
  · obtain ⟨g, cap, cur, hvv, hg, hB, hc, hcm, hs, ht⟩ := own_blk h (by omega)
    rcases Nat.lt_or_ge cap (n + m) with hr | hr
    · exact ins_pairs_grow base i n m vb v cs el w h hlt hm hn h1 h1e hv hel hbase g cap hvv hr
    · exact ins_pairs_shift base i n m vb v cs el w h hlt hm hn h1 h1e hv hel hne g cap hvv hr
  · exact ins_pairs_end base i m vb v cs el w h hm hn h1e hv hel hbase

/-- what slices.Insert leaves -/
def InsPost39 (base i n m : Nat) (v : Value) (cs el : List Value) (w : World) (e : Ending) (w' : World) : Prop :=
  ∃ v', e = .returned v' ∧ w'.ownsRow base 39 1 v' (n + m) (cs.take (i * 1) ++ (el ++ cs.drop (i * 1))) ∧ (v'.ownBlock = v.ownBlock ∨ v'.ownBlock = some w.heap.size) ∧ Keep v.ownBlock.toList w w'
set_option maxRecDepth 100000 in
set_option maxHeartbeats 4000000 in
theorem ins_kids_shift (base i n m vb : Nat) (v : Value) (cs el : List Value) (w : World) (h : w.ownsRow base 39 1 v n cs) (hi : i < n) (hm : 0 < m) (hn : n + m ≤ 1000) (h1 : ∀ u ∈ cs, u.oneCell' = true) (h1e : ∀ u ∈ el, u.oneCell' = true)
    (hv : Blk w vb 39 el.toArray) (hel : el.length = m * 1) (hne : v.ownBlock ≠ some vb) (g cap : Nat) (hvv : v = .slice (some ⟨g, 0, none⟩) n cap) (hroom : n + m ≤ cap) :
    Calls Try.prog 82 #[v, .int .i64 i, .slice (some ⟨vb, 0, none⟩) m m] w (InsPost39 base i n m v cs el w) := by
  obtain ⟨i0, hI, hz0, hz1, hz2⟩ := info_parts info39
  have hlen := h.1
  obtain ⟨g', cap', cur, hv', hg, hB, hc, hcm, hs, ht⟩ := own_blk h (by omega)
  subst hvv
  simp only [Value.slice.injEq, Option.some.injEq, Addr.mk.injEq, and_true, true_and] at hv'
  obtain ⟨rfl, rfl⟩ := hv'
  have hvg : vb ≠ g := fun e => hne (by rw [e]; rfl)
  have hmx : cap ≤ 9223372036854775807 := by unfold maxLen at hcm; omega
  have hsz : (Try.prog.info? 39).map (·.size) = some 1 := by rw [hI]; simp [hz1]
  have hsz' : ∀ w, (Go.sizeOf 39).run Try.prog w = .ok 1 w := fun w => by simp [sizeOf, typeInfo, hI, hz1]
  have hq1 : ¬ ((m : Int) = 0) := by omega
  have hq2 : ¬ ((i : Int) = (n : Int)) := by omega
  have hov : ∀ lb cb, (callFunc 87 #[.slice (some ⟨vb, 0, none⟩) m m, .slice (some ⟨g, (i + m), none⟩) lb cb]).run Try.prog w = .ok (.value (.bool false)) w := fun lb cb => by
    have hshv : w.shape? vb = some (39, el.toArray.size) := by have h' := hv; unfold Blk at h'; simp [World.shape?, h']
    have hshg : w.shape? g = some (39, cur.size) := by have h' := hB; unfold Blk at h'; simp [World.shape?, h']
    rw [run_callFunc_extern Try.func87 (by kernel_rfl) (by kernel_rfl) (by kernel_rfl) (e := Extern.SlicesOverlaps.overlaps #[31, 31] #[4]) (by kernel_rfl),
      Lib.run_overlaps_apart w 31 4 39 Try.underlying31 1 hsz' ⟨vb, 0, none⟩ ⟨g, (i + m), none⟩ m m lb cb hvg _ _ _ _ hshv hshg (by rw [hs]; omega) (hv.frozen _) (hv.frozen _)]
    rfl
  obtain ⟨D, hD⟩ : ∃ D, D = cs.drop (i * 1) := ⟨_, rfl⟩
  have hDl : D.length = (n - i) * 1 := by rw [hD, List.length_drop, hlen, Nat.sub_mul]
  have hDc : ∀ j u, D[j]? = some u → w.cell? ⟨g, i * 1 + j, none⟩ = some u := fun j u hu => by
    rw [hD, List.getElem?_drop, ← ht, List.getElem?_take] at hu
    split at hu
    · rw [hB.cell]; rwa [Array.getElem?_toList] at hu
    · cases hu
  have hf1 : (i + m) * 1 + D.length ≤ cur.size := by rw [hDl, hs, ← Nat.add_mul]; exact Nat.mul_le_mul_right _ (by omega)
  obtain ⟨R1, hR1⟩ : ∃ R1, R1 = over cur ((i + m) * 1) D := ⟨_, rfl⟩
  have hR1s : R1.size = cur.size := by rw [hR1]; exact over_size _ _ _ hf1
  have hcp1 : ∀ ty dc sc, (Builtin.copy_ #[31, 31] ty #[.slice (some ⟨g, (i + m), none⟩) (n + m - (i + m)) dc, .slice (some ⟨g, (i), none⟩) (n + m - i) sc]).run Try.prog w.drew = .ok (goInt ((n - i : Nat) : Int)) (w.drew.setRow g R1) := fun ty dc sc => by
    have e := run_copyS (P := Try.prog) w.drew 31 31 ty 39 1 g ((i + m) * 1) (n + m - (i + m)) dc ⟨g, i * 1, none⟩ (n + m - i) sc cur 39 D Try.underlying31 hsz hB
      (by rw [hDl]; congr 1; simp only [Nat.min_def]; split <;> omega) (fun j u hu => by rw [addr_at]; exact hDc j u hu) hf1 (fun u hu => h1 u (by rw [hD] at hu; exact List.mem_of_mem_drop hu))
    rw [show Nat.min (n + m - i) (n + m - (i + m)) = n - i by simp only [Nat.min_def]; split <;> omega, ← hR1] at e
    simpa only [Nat.mul_one] using e
  have hB1 : Blk (w.drew.setRow g R1) g 39 R1 := Blk.row (w := w.drew) hB _
  have hK1 : Keep [g] w (w.drew.setRow g R1) := (Keep.refl [g] w).drew.setRow (by simp) _
  have hv1 : Blk (w.drew.setRow g R1) vb 39 el.toArray := hv.keep hK1 (by simpa using hvg)
  have hf2 : i * 1 + el.length ≤ R1.size := by rw [hel, hR1s, hs, ← Nat.add_mul]; exact Nat.mul_le_mul_right _ (by omega)
  obtain ⟨R2, hR2⟩ : ∃ R2, R2 = over R1 (i * 1) el := ⟨_, rfl⟩
  have hR2s : R2.size = cur.size := by rw [hR2, over_size _ _ _ hf2]; exact hR1s
  obtain ⟨W1, hW1⟩ : ∃ W1, W1 = w.drew.setRow g R1 := ⟨_, rfl⟩
  rw [← hW1] at hB1 hK1 hv1 hcp1
  have hcp2 : ∀ ty dc, (Builtin.copy_ #[31, 31] ty #[.slice (some ⟨g, (i), none⟩) (n + m - i) dc, .slice (some ⟨vb, 0, none⟩) m m]).run Try.prog W1 = .ok (goInt m) (W1.setRow g R2) := fun ty dc => by
    have e := run_copyS (P := Try.prog) W1 31 31 ty 39 1 g (i * 1) (n + m - i) dc ⟨vb, 0, none⟩ m m R1 39 el Try.underlying31 hsz hB1
      (by rw [hel]; congr 1; simp only [Nat.min_def]; split <;> omega) (fun j u hu => by rw [addr_at, Nat.zero_add, hv1.cell]; simpa using hu) hf2 h1e
    rw [show Nat.min m (n + m - i) = m by simp only [Nat.min_def]; split <;> omega, ← hR2] at e
    simpa only [Nat.mul_one] using e
  have hw1 : IntKind.i64.wrap ((i : Int) + (m : Int)) = (i : Int) + (m : Int) := IntWalk.i64_in _ (by omega)
  have hb1 : (0 : Int) ≤ (i : Int) + (m : Int) := by omega
  have hin : i ≤ n := by omega
  have htn : ((i : Int) + (m : Int)).toNat = i + m := by omega
  have hb2 : ¬ (cap = i + m) := by omega
  have hb3 : (i : Int) ≤ (n : Int) + (m : Int) := by omega
  have hb4 : ¬ (cap = i) := by omega
  have HT := Lib.hid ht
  have HD := Lib.hid hD
  have HL := Lib.hid hlen
  have HR1 := Lib.hid hR1
  have HR2 := Lib.hid hR2
  have HS := Lib.hid hs
  have HE := Lib.hid hel
  have HDL := Lib.hid hDl
  clear hW1 hR1 hR2 hD ht hlen hsz hsz' hDc hs hB hv hv1 h hne hel hDl
  have mixed : Try.prog.follows .mixedOrders = true := by kernel_rfl
  go_enter Try.func82, Try.ntmps82
  go_wp2_with (simp only [hov])
  go_region_law_o (refine step_copyR rfl _ _ 31 31 rfl _ _ (by simp [Act.eval, Act.put]) (by simp [Act.eval, Act.put]) (hcp1 _ _ _) ?_)
  go_wp2_with (refine wpList_copyR _ rfl _ _ 31 31 rfl _ _ rfl rfl (hcp2 _ _) ?_)
  go_ret
  refine ⟨.slice (some ⟨g, 0, none⟩) (n + m) cap, rfl, ⟨?_, .inr ⟨g, cap, R2, rfl, hg, hB1.row R2, hroom, hcm, by rw [hR2s, HS.out], ?_⟩⟩, .inl rfl, hK1.setRow (by simp) _⟩
  · rw [List.length_append, List.length_append, List.length_take, List.length_drop, HL.out, HE.out]; omega
  · have e1 : R2.toList.take (i * 1 + el.length) = R1.toList.take (i * 1) ++ el := by rw [HR2.out]; exact over_take _ _ _ _ rfl (by rw [hR1s, HS.out]; omega)
    have e2 : R2.toList.take ((n + m) * 1) = R2.toList.take (i * 1 + el.length) ++ (R2.toList.drop (i * 1 + el.length)).take ((n - i) * 1) := by
      rw [← List.take_add, HE.out]; congr 1; omega
    have e3 : R2.toList.drop (i * 1 + el.length) = R1.toList.drop (i * 1 + el.length) := by rw [HR2.out]; exact over_drop _ _ _ (by omega)
    have e4 : (R1.toList.drop (i * 1 + el.length)).take ((n - i) * 1) = D := by
      rw [HR1.out, HE.out, ← Nat.add_mul]; exact over_mid _ _ _ _ HDL.out.symm (by rw [HDL.out] at hf1; omega)
    have e5 : R1.toList.take (i * 1) = cs.take (i * 1) := by
      rw [HR1.out, over_take_le _ _ _ _ (by omega) (by omega), ← HT.out, List.take_take, show min (i * 1) (n * 1) = i * 1 by omega]
    rw [e2, e3, e4, e1, e5, HD.out, List.append_assoc]
set_option maxRecDepth 100000 in
set_option maxHeartbeats 4000000 in
theorem ins_kids_grow (base i n m vb : Nat) (v : Value) (cs el : List Value) (w : World) (h : w.ownsRow base 39 1 v n cs) (hi : i < n) (hm : 0 < m) (hn : n + m ≤ 1000) (h1 : ∀ u ∈ cs, u.oneCell' = true) (h1e : ∀ u ∈ el, u.oneCell' = true)
    (hv : Blk w vb 39 el.toArray) (hel : el.length = m * 1) (hbase : base ≤ w.heap.size) (g cap : Nat) (hvv : v = .slice (some ⟨g, 0, none⟩) n cap) (hroom : cap < n + m) :
    Calls Try.prog 82 #[v, .int .i64 i, .slice (some ⟨vb, 0, none⟩) m m] w (InsPost39 base i n m v cs el w) := by
  obtain ⟨i0, hI, hz0, hz1, hz2⟩ := info_parts info39
  have hlen := h.1
  obtain ⟨g', cap', cur, hv', hg, hB, hc, hcm, hs, ht⟩ := own_blk h (by omega)
  subst hvv
  simp only [Value.slice.injEq, Option.some.injEq, Addr.mk.injEq, and_true, true_and] at hv'
  obtain ⟨rfl, rfl⟩ := hv'
  have hsz : (Try.prog.info? 39).map (·.size) = some 1 := by rw [hI]; simp [hz1]
  have hq1 : ¬ ((m : Int) = 0) := by omega
  have hq2 : ¬ ((i : Int) = (n : Int)) := by omega
  have hq3 : (cap : Int) < (n : Int) + (m : Int) := by omega
  have hkk : (n : Int) + (m : Int) - (i : Int) = ((n + m - i : Nat) : Int) := by omega
  have hik : i + (n + m - i) = n + m := by omega
  have hcc : ∀ j u, cs[j]? = some u → w.cell? ⟨g, j, none⟩ = some u := fun j u hu => by
    rw [← ht, List.getElem?_take] at hu
    split at hu
    · rw [hB.cell]; rwa [Array.getElem?_toList] at hu
    · cases hu
  have hold : (Builtin.firstCells i0.size i (.slice (some ⟨g, 0, none⟩) i cap)).run Try.prog w.drew = .ok (cs.take (i * 1)).toArray w.drew := by
    rw [hz1]
    refine run_firstCells_some w.drew 1 i ⟨g, 0, none⟩ i cap (cs.take (i * 1)) (by rw [List.length_take, hlen]; omega) (fun j u hj => ?_)
    rw [addr_at, Nat.zero_add]
    rw [List.getElem?_take] at hj
    split at hj
    · exact hcc j u hj
    · cases hj
  have hrz : ∀ ty, (Builtin.append_ #[31, 3] ty #[.slice (some ⟨g, 0, none⟩) i cap, .int .i64 ((n : Int) + (m : Int) - (i : Int))]).run Try.prog w =
      .ok (.slice (some ⟨w.heap.size, 0, none⟩) (n + m) (grownCap w (n + m) cap 39)) (w.drew.alloc (.cells ((cs.take (i * 1)).toArray ++ Builtin.zeroCells (Value.cells (.pointer none)) (n + m - i) ++ Builtin.zeroCells (Value.cells (.pointer none)) (grownCap w (n + m) cap 39 - (n + m))) 39)) := fun ty => by
    have h := Lib.run_append_grow_zeros (P := Try.prog) w 31 3 ty 39 i0 _ .i64 .i64 Try.underlying31 Try.underlying3 hI hz0 (some ⟨g, 0, none⟩) i cap (cs.take (i * 1)) hold (n + m - i) (by omega) (by omega) (by omega) (by omega) (by rw [hz2]; omega) (by rw [hz2, hik]; exact growslice_fits hroom (by omega))
    rw [hik] at h
    rw [hkk]
    exact h
  have hcg := grownCap_ge w (n + m) cap 39
  have hcgm := grownCap_le_maxLen w (n + m) cap 39 (by unfold maxLen; omega)
  generalize grownCap w (n + m) cap 39 = G at *
  obtain ⟨ROW, hROW⟩ : ∃ ROW : Array Value, ROW = (cs.take (i * 1)).toArray ++ Builtin.zeroCells (Value.cells (.pointer none)) (n + m - i) ++ Builtin.zeroCells (Value.cells (.pointer none)) (G - (n + m)) := ⟨_, rfl⟩
  rw [← hROW] at hrz
  have hRs : ROW.size = G * 1 := by
    rw [hROW, Array.size_append, Array.size_append, List.size_toArray, List.length_take, hlen]
    simp only [Builtin.zeroCells, Array.size_map, Array.size_range, zsz_kids]
    omega
  have hRt : ROW.toList.take (i * 1) = cs.take (i * 1) := by
    have e : ROW.toList = cs.take (i * 1) ++ ((Builtin.zeroCells (Value.cells (.pointer none)) (n + m - i)).toList ++ (Builtin.zeroCells (Value.cells (.pointer none)) (G - (n + m))).toList) := by rw [hROW]; simp
    rw [e, List.take_append_of_le_length (by rw [List.length_take, hlen]; omega), List.take_take, Nat.min_self]
  obtain ⟨N, hN⟩ : ∃ N, N = w.heap.size := ⟨_, rfl⟩
  rw [← hN] at hrz hbase
  obtain ⟨W1, hW1⟩ : ∃ W1, W1 = w.drew.alloc (.cells ROW 39) := ⟨_, rfl⟩
  have hBN : Blk W1 N 39 ROW := by rw [hW1, hN]; exact Blk.new w.drew 39 ROW
  have hK0 : Keep [N] w W1 := by rw [hW1]; exact (Keep.refl [N] w).drew.alloc _
  have hbl := hB.lt
  have hvl := hv.lt
  have hB1 : Blk W1 g 39 cur := hB.keep hK0 (by simp; omega)
  have hv1 : Blk W1 vb 39 el.toArray := hv.keep hK0 (by simp; omega)
  obtain ⟨D, hD⟩ : ∃ D, D = cs.drop (i * 1) := ⟨_, rfl⟩
  have hDl : D.length = (n - i) * 1 := by rw [hD, List.length_drop, hlen, Nat.sub_mul]
  obtain ⟨R1, hR1⟩ : ∃ R1, R1 = over ROW (i * 1) el := ⟨_, rfl⟩
  have hf1 : i * 1 + el.length ≤ ROW.size := by rw [hel, hRs, ← Nat.add_mul]; exact Nat.mul_le_mul_right _ (by omega)
  have hR1s : R1.size = ROW.size := by rw [hR1]; exact over_size _ _ _ hf1
  have hf2 : (i + m) * 1 + D.length ≤ R1.size := by rw [hDl, hR1s, hRs, ← Nat.add_mul]; exact Nat.mul_le_mul_right _ (by omega)
  obtain ⟨R2, hR2⟩ : ∃ R2, R2 = over R1 ((i + m) * 1) D := ⟨_, rfl⟩
  have hR2s : R2.size = ROW.size := by rw [hR2, over_size _ _ _ hf2]; exact hR1s
  have hcpA : ∀ (W : World), W.heap = W1.heap → ∀ ty dc, (Builtin.copy_ #[31, 31] ty #[.slice (some ⟨N, (i), none⟩) (n + m - i) dc, .slice (some ⟨vb, 0, none⟩) m m]).run Try.prog W = .ok (goInt m) (W.setRow N R1) := fun W hW ty dc => by
    have hbn : Blk W N 39 ROW := by unfold Blk; rw [hW]; exact hBN
    have hbv : Blk W vb 39 el.toArray := by unfold Blk; rw [hW]; exact hv1
    have e := run_copyS (P := Try.prog) W 31 31 ty 39 1 N (i * 1) (n + m - i) dc ⟨vb, 0, none⟩ m m ROW 39 el Try.underlying31 hsz hbn
      (by rw [hel]; congr 1; simp only [Nat.min_def]; split <;> omega) (fun j u hu => by rw [addr_at, Nat.zero_add, hbv.cell]; simpa using hu) hf1 h1e
    rw [show Nat.min m (n + m - i) = m by simp only [Nat.min_def]; split <;> omega, ← hR1] at e
    simpa only [Nat.mul_one] using e
  have hcpB : ∀ (W : World), W.heap = (W1.setRow N R1).heap → ∀ ty dc sc, (Builtin.copy_ #[31, 31] ty #[.slice (some ⟨N, (i + m), none⟩) (n + m - (i + m)) dc, .slice (some ⟨g, (i), none⟩) (n - i) sc]).run Try.prog W = .ok (goInt ((n - i : Nat) : Int)) (W.setRow N R2) := fun W hW ty dc sc => by
    have hbn : Blk W N 39 R1 := by unfold Blk; rw [hW]; exact hBN.row R1
    have hbg : Blk W g 39 cur := by unfold Blk; rw [hW]; exact hB1.keep ((Keep.refl [N] W1).setRow (by simp) R1) (by simp; omega)
    have e := run_copyS (P := Try.prog) W 31 31 ty 39 1 N ((i + m) * 1) (n + m - (i + m)) dc ⟨g, i * 1, none⟩ (n - i) sc R1 39 D Try.underlying31 hsz hbn
      (by rw [hDl]; congr 1; simp only [Nat.min_def]; split <;> omega) (fun j u hu => by
        rw [addr_at, hbg.cell]
        rw [hD, List.getElem?_drop] at hu
        have := hcc _ u hu
        rwa [hB.cell] at this) hf2 (fun u hu => h1 u (by rw [hD] at hu; exact List.mem_of_mem_drop hu))
    rw [show Nat.min (n - i) (n + m - (i + m)) = n - i by simp only [Nat.min_def]; split <;> omega, ← hR2] at e
    simpa only [Nat.mul_one] using e
  have hG63 : G ≤ 9223372036854775807 := by unfold maxLen at hcgm; omega
  have hGi : ¬ (G = i) := by omega
  have hGim : ¬ (G = i + m) := by omega
  have hci : ¬ (cap = i) := by omega
  have hw1 : IntKind.i64.wrap ((i : Int) + (m : Int)) = (i : Int) + (m : Int) := IntWalk.i64_in _ (by omega)
  have hb1 : (0 : Int) ≤ (i : Int) + (m : Int) := by omega
  have hin : i ≤ n := by omega
  have htn : ((i : Int) + (m : Int)).toNat = i + m := by omega
  have hb3 : (i : Int) ≤ (n : Int) := by omega
  have HBe : Below w.heap.size w W1 := by rw [hW1]; exact ((Below.refl _ w).drew).alloc (Nat.le_refl _) _
  have HN := Lib.hid hN
  have HD := Lib.hid hD
  have HL := Lib.hid hlen
  have HR1 := Lib.hid hR1
  have HR2 := Lib.hid hR2
  have HRS := Lib.hid hRs
  have HRT := Lib.hid hRt
  have HE := Lib.hid hel
  have HDL := Lib.hid hDl
  have hE1 : ((w.alloc (.cells ROW 39)).drew).heap = W1.heap := by rw [hW1]; rfl
  have hE2 : (((w.alloc (.cells ROW 39)).drew.setRow N R1).drew).heap = (W1.setRow N R1).heap := by rw [hW1]; rfl
  have hE3 : (((w.alloc (.cells ROW 39)).drew.setRow N R1).drew.setRow N R2).heap = ((W1.setRow N R1).setRow N R2).heap := by rw [hW1]; rfl
  have HW1 := Lib.hid hW1
  rw [hW1] at hcpA hcpB hE1 hE2
  have HE3 := Lib.hid hE3
  clear hkk hik hold hROW hRt hRs hN hD hlen hR1 hR2 hel hDl hW1 hv1 hB1 hB hv ht hs h hcc hsz hE3
  have mixed : Try.prog.follows .mixedOrders = true := by kernel_rfl
  go_enter Try.func82, Try.ntmps82
  go_wp2_with (first
    | (at_builtin; refine Lib.wpList_append_run _ rfl _ _ _ _ rfl _ _ rfl rfl _ _ (hrz _) ?_)
    | (refine wpList_copyR _ rfl _ _ 31 31 rfl _ _ rfl rfl (hcpA _ hE1 _ _) ?_))
  go_region_law_o (refine step_copyR rfl _ _ 31 31 rfl (.slice (some ⟨N, (i + m), none⟩) (n + m - (i + m)) (G - (i + m))) (.slice (some ⟨g, (i), none⟩) (n - i) (cap - i)) (by simp [Act.eval, Act.put]) (by simp [Act.eval, Act.put]) (hcpB _ hE2 3 (G - (i + m)) (cap - i)) ?_)
  go_wp2_with fail
  go_ret
  refine ⟨.slice (some ⟨N, 0, none⟩) (n + m) G, rfl, ⟨?_, .inr ⟨N, G, R2, rfl, hbase, ?_, hcg, hcgm, by rw [hR2s, HRS.out], ?_⟩⟩, .inr (by rw [← HN.out]; rfl), Keep.of_below (below_setRow ((below_setRow (((Below.refl w.heap.size w).alloc (Nat.le_refl _) _).drew) (by rw [HN.out]; exact Nat.le_refl _) _).drew) (by rw [HN.out]; exact Nat.le_refl _) _)⟩
  · rw [List.length_append, List.length_append, List.length_take, List.length_drop, HL.out, HE.out]; omega
  · have hb : Blk ((W1.setRow N R1).setRow N R2) N 39 R2 := (hBN.row R1).row R2
    unfold Blk at hb
    rw [← HE3.out] at hb
    exact hb
  · have e1 : R2.toList.take ((n + m) * 1) = R1.toList.take ((i + m) * 1) ++ D := by
      rw [HR2.out]; exact over_take _ _ _ _ (by rw [HDL.out, ← Nat.add_mul]; congr 1; omega) (by rw [hR1s, HRS.out]; exact Nat.mul_le_mul_right _ (by omega))
    have e2 : R1.toList.take ((i + m) * 1) = ROW.toList.take (i * 1) ++ el := by
      rw [HR1.out]; exact over_take _ _ _ _ (by rw [HE.out, ← Nat.add_mul]) (by rw [HRS.out]; exact Nat.mul_le_mul_right _ (by omega))
    rw [e1, e2, HRT.out, HD.out, List.append_assoc]
set_option maxRecDepth 100000 in
set_option maxHeartbeats 4000000 in
theorem ins_kids_end (base n m vb : Nat) (v : Value) (cs el : List Value) (w : World) (h : w.ownsRow base 39 1 v n cs) (hm : 0 < m) (hn : n + m ≤ 1000) (h1e : ∀ u ∈ el, u.oneCell' = true)
    (hv : Blk w vb 39 el.toArray) (hel : el.length = m * 1) (hbase : base ≤ w.heap.size) :
    Calls Try.prog 82 #[v, .int .i64 n, .slice (some ⟨vb, 0, none⟩) m m] w (InsPost39 base n n m v cs el w) := by
  obtain ⟨i0, hI, hz0, hz1, hz2⟩ := info_parts info39
  have hq1 : ¬ ((m : Int) = 0) := by omega
  have hlen := Lib.hid h.1
  have hge := own_ge h
  obtain ⟨A, cap, hvv, hcap⟩ : ∃ A cap, v = .slice A n cap ∧ n ≤ cap := by
    rcases h.2 with ⟨h1, h2⟩ | ⟨g, cap, cur, h1, _, _, h3, _⟩
    · exact ⟨none, 0, by rw [h1, h2], by omega⟩
    · exact ⟨_, cap, h1, h3⟩
  have hcv : ∀ j u, el[j]? = some u → w.cell? ((⟨vb, 0, none⟩ : Addr).add j) = some u := fun j u hu => by rw [addr_at, Nat.zero_add, hv.cell]; simpa using hu
  subst hvv
  clear hv
  by_cases hcn : cap = n
  · subst hcn
    go_enter Try.func82, Try.ntmps82
    go_wp2_with (at_builtin; refine wpList_append_own_at _ rfl _ _ 31 rfl base 39 i0 _ 1 8 Try.underlying31 hI hz0 hz1 hz2 zsz_kids (by decide) (.slice A cap cap) cap cs rfl h ⟨vb, 0, none⟩ m m el rfl hel hcv h1e (by unfold maxLen; omega) (by omega) hbase ?_; intro v' wa hown' hgrow hnil hat)
    go_ret
    refine ⟨v', rfl, ?_, hat, ⟨⟨hgrow.os, hgrow.tape, hgrow.output, hgrow.size, fun i hi => by omega⟩, fun i hi hx => hgrow.block i hi (fun e => hx (by rw [← e]; simp))⟩⟩
    rw [List.take_of_length_le (by rw [hlen.out]; exact Nat.le_refl _), List.drop_of_length_le (by rw [hlen.out]; exact Nat.le_refl _), List.append_nil]
    exact hown'
  · go_enter Try.func82, Try.ntmps82
    go_wp2_with (at_builtin; refine wpList_append_own_at _ rfl _ _ 31 rfl base 39 i0 _ 1 8 Try.underlying31 hI hz0 hz1 hz2 zsz_kids (by decide) (.slice A n cap) n cs rfl h ⟨vb, 0, none⟩ m m el rfl hel hcv h1e (by unfold maxLen; omega) (by omega) hbase ?_; intro v' wa hown' hgrow hnil hat)
    go_ret
    refine ⟨v', rfl, ?_, hat, ⟨⟨hgrow.os, hgrow.tape, hgrow.output, hgrow.size, fun i hi => by omega⟩, fun i hi hx => hgrow.block i hi (fun e => hx (by rw [← e]; simp))⟩⟩
    rw [List.take_of_length_le (by rw [hlen.out]; exact Nat.le_refl _), List.drop_of_length_le (by rw [hlen.out]; exact Nat.le_refl _), List.append_nil]
    exact hown'
theorem ins_kids (base i n m vb : Nat) (v : Value) (cs el : List Value) (w : World) (h : w.ownsRow base 39 1 v n cs) (hi : i ≤ n) (hm : 0 < m) (hn : n + m ≤ 1000) (h1 : ∀ u ∈ cs, u.oneCell' = true) (h1e : ∀ u ∈ el, u.oneCell' = true)
    (hv : Blk w vb 39 el.toArray) (hel : el.length = m * 1) (hbase : base ≤ w.heap.size) (hne : v.ownBlock ≠ some vb) :
    Calls Try.prog 82 #[v, .int .i64 i, .slice (some ⟨vb, 0, none⟩) m m] w (InsPost39 base i n m v cs el w) := by
  rcases Nat.lt_or_eq_of_le hi with hlt | rfl
  · obtain ⟨g, cap, cur, hvv, hg, hB, hc, hcm, hs, ht⟩ := own_blk h (by omega)
    rcases Nat.lt_or_ge cap (n + m) with hr | hr
    · exact ins_kids_grow base i n m vb v cs el w h hlt hm hn h1 h1e hv hel hbase g cap hvv hr
    · exact ins_kids_shift base i n m vb v cs el w h hlt hm hn h1 h1e hv hel hne g cap hvv hr
  · exact ins_kids_end base i m vb v cs el w h hm hn h1e hv hel hbase
end Go.Proofs.Ytgldgdpgbfejmaa
