/- Copying, clearing and appending in a row of memory that is known whole, of elements of whatever size: laws of every program. -/
import Derived.Test.YtfmbikmpobieoaaMT
import Derived.Laws.CopyOwn
import Derived.Laws.CopyRow
import Derived.Laws.IdiomCopy
import Derived.Lib.SliceRun
import Derived.Lib.Overlaps
import Derived.Lib.AppendZerosOnto
import Derived.Deep.RegionLaw
import Derived.Test.YtfmbikmpobieoaaMP
import Derived.Shelf.RegionOpenPlain
import Derived.Laws.Externs
import Derived.Laws.NewBlocks
import Derived.Test.YtfmbikmpobieoaaCa
namespace Go.Proofs.Ytfmbikmpobieoaa
open Go.RowKit Go.Lib
set_option linter.unusedVariables false
set_option maxRecDepth 100000
set_option maxRecDepth 100000
set_option linter.unusedSimpArgs false

/-- a row with some of its cells replaced -/
def over (cur : Array Value) (o : Nat) (vs : List Value) : Array Value := (splice cur.toList o vs).toArray
theorem over_size (cur : Array Value) (o : Nat) (vs : List Value) (h : o + vs.length ≤ cur.size) : (over cur o vs).size = cur.size := by
  unfold over; rw [List.size_toArray, length_splice _ _ _ (by simpa using h)]; simp
theorem Blk.row {w : World} {g : Nat} {t : TypeId} {cs : Array Value} (h : Blk w g t cs) (cs' : Array Value) : Blk (w.setRow g cs') g t cs' := setRow_heap w g cs cs' t (0, 0) h
theorem Keep.setRow {X : List Nat} {a w : World} (h : Keep X a w) {g : Nat} (hg : g ∈ X) (cs : Array Value) : Keep X a (w.setRow g cs) :=
  h.trans ⟨below_setRow (Below.refl _ _) (Nat.zero_le _) cs, fun i hi hx => setRow_other w g i cs (fun e => hx (e ▸ hg))⟩
theorem Keep.drew {X : List Nat} {a w : World} (h : Keep X a w) : Keep X a w.drew := ⟨h.all.drew, h.block⟩
theorem setCells_row (g : Nat) (t : TypeId) : ∀ (vs : List Value) (o : Nat) (cur : Array Value) (w : World), Blk w g t cur → o + vs.length ≤ cur.size → w.setCells g o vs = w.setRow g (over cur o vs)
  | [], o, cur, w, hg, _ => by
    have e : over cur o [] = cur := by unfold over splice; simp
    rw [e, setRow_self w g cur t (0, 0) hg]; rfl
  | v :: rest, o, cur, w, hg, hl => by
    have hi : o < cur.size := by simp at hl; omega
    have e1 : w.setCell ⟨g, o, none⟩ v = w.setRow g (cur.setIfInBounds o v) := setCell_eq_setRow w g o cur t (0, 0) v hg
    have ih := setCells_row g t rest (o + 1) (cur.setIfInBounds o v) (w.setRow g (cur.setIfInBounds o v)) (hg.row _) (by simp at hl ⊢; omega)
    rw [World.setCells, e1, ih, setRow_setRow]
    congr 1
    unfold over splice
    have e := list_seg_step cur.toList o v rest (by simp at hl ⊢; omega)
    congr 1
    simpa [Array.toList_setIfInBounds, Nat.add_assoc] using e
section
variable {P : Program}
theorem run_copyS (w : World) (dT sT ty elem : TypeId) (size g o dLen dCap : Nat) (a : Addr) (sLen sCap : Nat) (cur : Array Value) (t : TypeId) (cs : List Value)
    (hu : P.underlying dT = some (.slice elem)) (hs : (P.info? elem).map (·.size) = some size) (hg : Blk w g t cur) (hn : cs.length = Nat.min sLen dLen * size)
    (hsrc : ∀ j v, cs[j]? = some v → w.cell? (a.add j) = some v) (hfit : o + cs.length ≤ cur.size) (h1 : ∀ v ∈ cs, v.oneCell' = true) :
    (Builtin.copy_ #[dT, sT] ty #[.slice (some ⟨g, o, none⟩) dLen dCap, .slice (some a) sLen sCap]).run P w = .ok (goInt (Nat.min sLen dLen)) (w.setRow g (over cur o cs)) := by
  have hl := run_loadCells_list (P := P) w a cs hsrc
  have hst := run_storeCells_at P g o t cs 0 cur w hg (by simpa using hfit) h1
  have e : (cur.toList.take (o + 0) ++ cs ++ cur.toList.drop (o + 0 + cs.length)).toArray = over cur o cs := by unfold over splice; simp
  rw [e] at hst
  cases hq : P.info? elem with
  | none => simp [hq] at hs
  | some i =>
    have hi : i.size = size := by simpa [hq] using hs
    simp [Builtin.copy_, run_underlying hu, Builtin.lenOf, Builtin.firstCells, sizeOf, typeInfo, hq, hi, ← hn, hl, hst]
theorem run_clearS (w : World) (t e ty : TypeId) (z : Value) (ht : P.underlying t = some (.slice e)) (hv : ∀ w, (zeroValue e).run P w = .ok z w) (g o n c : Nat) (cur : Array Value) (te : TypeId) (hg : Blk w g te cur) (hn : 0 < n)
    (h1 : ∀ v ∈ (Builtin.zeroCells z.cells n).toList, v.oneCell' = true) (hfit : o + (Builtin.zeroCells z.cells n).toList.length ≤ cur.size) :
    (Builtin.clear_ #[t] ty #[.slice (some ⟨g, o, none⟩) n c]).run P w = .ok (.tuple #[]) (w.setRow g (over cur o (Builtin.zeroCells z.cells n).toList)) := by
  have hst := run_storeCells_at P g o te (Builtin.zeroCells z.cells n).toList 0 cur w hg (by simpa using hfit) h1
  have e : (cur.toList.take (o + 0) ++ (Builtin.zeroCells z.cells n).toList ++ cur.toList.drop (o + 0 + (Builtin.zeroCells z.cells n).toList.length)).toArray = over cur o (Builtin.zeroCells z.cells n).toList := by unfold over splice; simp
  rw [e] at hst
  obtain ⟨m, rfl⟩ : ∃ m, n = m + 1 := ⟨n - 1, by omega⟩
  simp [Builtin.clear_, run_underlying ht, hv, hst]
/-- a copy, its run known -/
theorem wpList_copyR (w : World) {ops : Array Oper} {rest : List Oper} {o : Oper} {a : Act} {Q : Exit → Act → World → Prop} (hgd : o.guard = none) (d s : Operand) (t t' : TypeId)
    (ho : o.op = .call { callee := .builtin .copy, args := #[d, s], argTypes := #[t, t'] }) (v u : Value) (hd : a.eval d = v) (hs : a.eval s = u) {v' : Value} {w' : World}
    (hr : (Builtin.copy_ #[t, t'] o.type #[v, u]).run P w = .ok v' w') (h : wpList P ops Q rest (a.put o.dst v') w') : wpList P ops Q (o :: rest) a w := by
  refine wpList_plain hgd fun K hK => ?_
  unfold Oper.wp
  simp [execOp, ho, resolve, invoke, builtin, hd, hs, hr, Result.andThen]
  exact hK _ _ h
/-- a copy in a region that draws -/
theorem step_copyR {ops : Array Oper} {o : Oper} {a : Act} {w : World} {K : Act → World → Prop} {Q : Exit → Act → World → Prop} {E : Prop} (hgd : o.guard = none) (d s : Operand) (t t' : TypeId)
    (ho : o.op = .call { callee := .builtin .copy, args := #[d, s], argTypes := #[t, t'] }) (v u : Value) (hd : a.eval d = v) (hs : a.eval s = u) {v' : Value} {w' : World}
    (hr : (Builtin.copy_ #[t, t'] o.type #[v, u]).run P w = .ok v' w') (hK : K (a.put o.dst v') w') : if Region.wanted o (yielded ops a.tmps) = true then Oper.wp P o a w K Q else E := by
  rw [if_pos (by simp [Region.wanted, hgd])]
  unfold Oper.wp
  simp [execOp, ho, resolve, invoke, builtin, hd, hs, hr, Result.andThen]
  exact hK
end
theorem addr_at (g off j : Nat) : (⟨g, off, none⟩ : Addr).add j = ⟨g, off + j, none⟩ := by unfold Addr.add; split <;> simp_all
/-- the cells of an owned row: those of its block -/
theorem own_blk {w : World} {base : Nat} {e : TypeId} {size n : Nat} {v : Value} {xs : List Value} (h : w.ownsRow base e size v n xs) (hn : 0 < n) :
    ∃ g cap cur, v = .slice (some ⟨g, 0, none⟩) n cap ∧ base ≤ g ∧ Blk w g e cur ∧ n ≤ cap ∧ cap ≤ maxLen ∧ cur.size = cap * size ∧ cur.toList.take (n * size) = xs := by
  rcases h.2 with ⟨_, h0⟩ | ⟨g, cap, cur, h1, h2, h3, h4⟩
  · omega
  · exact ⟨g, cap, cur, h1, h2, h3, h4⟩
end Go.Proofs.Ytfmbikmpobieoaa
/- slices.Delete of one element. -/
namespace Go.Proofs.Ytfmbikmpobieoaa
open Go.RowKit Go.Lib
set_option linter.unusedVariables false
set_option maxRecDepth 100000
set_option maxRecDepth 100000
set_option linter.unusedSimpArgs false
theorem zc_pairs : (Builtin.zeroCells (Value.cells (.agg #[.string ByteArray.empty, .string ByteArray.empty])) 1).toList = [.string ByteArray.empty, .string ByteArray.empty] := by
  have e : Value.cells (.agg #[.string ByteArray.empty, .string ByteArray.empty]) = #[.string ByteArray.empty, .string ByteArray.empty] := by simp [Value.cells]
  rw [e]
  apply List.ext_getElem
  · simp [Builtin.zeroCells]
  · intro k h1 h2
    simp [Builtin.zeroCells] at h1
    match k, h1 with
    | 0, _ => simp [Builtin.zeroCells]
    | 1, _ => simp [Builtin.zeroCells]
theorem zc_kids : (Builtin.zeroCells (Value.cells (.pointer none)) 1).toList = [.pointer none] := by
  have e : Value.cells (.pointer none) = #[.pointer none] := by simp [Value.cells]
  rw [e]
  apply List.ext_getElem
  · simp [Builtin.zeroCells]
  · intro k h1 h2
    simp [Builtin.zeroCells] at h1
    match k, h1 with
    | 0, _ => simp [Builtin.zeroCells]
theorem over_take (X : Array Value) (o : Nat) (vs : List Value) (k : Nat) (h : o + vs.length = k) (ho : o ≤ X.size) : (over X o vs).toList.take k = X.toList.take o ++ vs := by
  unfold over splice
  rw [List.take_append, List.take_append, List.take_of_length_le (by simp; omega), List.take_of_length_le (l := vs) (by simp; omega), List.length_take, Array.length_toList, show min o X.size = o by omega, show k - o - vs.length = 0 by omega, List.take_zero, List.append_nil]
theorem over_take_le (X : Array Value) (o : Nat) (vs : List Value) (k : Nat) (h : k ≤ o) (ho : o ≤ X.size) : (over X o vs).toList.take k = X.toList.take k := by
  unfold over splice
  rw [List.take_append_of_le_length (by simp; omega), List.take_take, show min k o = k by omega]
theorem info39 : (Try.prog.info? 29).map (fun i => (i.zero, i.size, i.bytes)) = some (some (.pointer none), 1, 8) := by kernel_rfl

set_option maxRecDepth 100000 in
set_option maxHeartbeats 4000000 in
theorem del_kids (base i j n : Nat) (v : Value) (cs : List Value) (w : World) (h : w.ownsRow base 29 1 v n cs) (hi : i < n) (hij : Hid (j = i + 1)) (hn : n ≤ 1000) (h1 : ∀ u ∈ cs, u.oneCell' = true) :
    Calls Try.prog 80 #[v, .int .i64 i, .int .i64 j] w fun e w' => ∃ g cap, v = .slice (some ⟨g, 0, none⟩) n cap ∧ e = .returned (.slice (some ⟨g, 0, none⟩) (n - 1) cap) ∧ w'.ownsRow base 29 1 (.slice (some ⟨g, 0, none⟩) (n - 1) cap) (n - 1) (cs.take (i * 1) ++ cs.drop ((i + 1) * 1)) ∧ Keep [g] w w' := by
  obtain ⟨i0, hI, hz0, hz1, hz2⟩ := info_parts info39
  have hlen := h.1
  obtain ⟨g, cap, cur, rfl, hg, hB, hc, hcm, hs, ht⟩ := own_blk h (by omega)
  have hmx : cap ≤ 9223372036854775807 := by unfold maxLen at hcm; omega
  have hv23 : ∀ w, (zeroValue 29).run Try.prog w = .ok (.pointer none) w := fun w => by simp [zeroValue, typeInfo, hI, hz0]
  obtain ⟨m, hm⟩ : ∃ m, m = n - j := ⟨_, rfl⟩
  have hji := hij.out
  -- the cells that move
  obtain ⟨news, hnews⟩ : ∃ news, news = cs.drop (j * 1) := ⟨_, rfl⟩
  have hnl : news.length = m * 1 := by rw [hnews, List.length_drop, hlen, hm, Nat.sub_mul]
  have hcell : ∀ t u, news[t]? = some u → w.cell? ⟨g, j * 1 + t, none⟩ = some u := fun t u hu => by
    rw [hnews, List.getElem?_drop, ← ht, List.getElem?_take] at hu
    split at hu
    · rw [hB.cell]; rwa [Array.getElem?_toList] at hu
    · cases hu
  obtain ⟨A, hA, hsrc⟩ : ∃ A : Addr, (if cap = j then some (⟨g, 0, none⟩ : Addr) else some ⟨g, j * 1, none⟩) = some A ∧ Hid (∀ t u, news[t]? = some u → w.drew.cell? (A.add t) = some u) := by
    by_cases hcj : cap = j
    · refine ⟨⟨g, 0, none⟩, by simp [hcj], Lib.hid fun t u hu => ?_⟩
      have h0 : news.length = 0 := by rw [hnl, hm, show n - j = 0 by omega, Nat.zero_mul]
      rw [List.length_eq_zero_iff.1 h0] at hu
      simp at hu
    · refine ⟨⟨g, j * 1, none⟩, by simp [hcj], Lib.hid fun t u hu => ?_⟩
      rw [addr_at]
      exact hcell t u hu
  have hfit1 : i * 1 + news.length ≤ cur.size := by rw [hnl, hs, ← Nat.add_mul]; exact Nat.mul_le_mul_right _ (by omega)
  have hsp : Hid (∀ t, t < news.length → (w.drew.cell? ⟨g, 0 + i * 1 + t, none⟩).isSome = true ∧ w.drew.frozen? ⟨g, 0 + i * 1 + t, none⟩ = false) := Lib.hid fun t ht => by
    refine ⟨?_, hB.frozen _⟩
    show (w.cell? _).isSome = true
    rw [hB.cell, Nat.zero_add, Array.getElem?_eq_getElem (by omega)]; rfl
  have h1n : Hid (∀ u ∈ news, u.oneCell' = true) := Lib.hid fun u hu => h1 u (by rw [hnews] at hu; exact List.mem_of_mem_drop hu)
  -- the world behind the append
  obtain ⟨W1, hW1⟩ : ∃ W1, W1 = w.drew.setCells g (0 + i * 1) news := ⟨_, rfl⟩
  have hW1r : W1 = w.drew.setRow g (over cur (i * 1) news) := by rw [hW1, Nat.zero_add]; exact setCells_row g 29 news _ cur w.drew hB hfit1
  have hB1 : Blk W1 g 29 (over cur (i * 1) news) := by rw [hW1r]; exact Blk.row (w := w.drew) hB _
  have hK1 : Keep [g] w W1 := by rw [hW1r]; exact (Keep.refl [g] w).drew.setRow (by simp) _
  obtain ⟨zs, hzs⟩ : ∃ zs, zs = (Builtin.zeroCells (Value.cells (.pointer none)) 1).toList := ⟨_, rfl⟩
  have hzl : zs.length = 1 := by rw [hzs, zc_kids]; rfl
  have hos := over_size cur (i * 1) news hfit1
  have hfit2 : (i + m) * 1 + zs.length ≤ (over cur (i * 1) news).size := by rw [hos, hzl, hs]; omega
  obtain ⟨R2, hR2⟩ : ∃ R2, R2 = over (over cur (i * 1) news) ((i + m) * 1) zs := ⟨_, rfl⟩
  have hcl : ∀ ty c, (Builtin.clear_ #[59] ty #[.slice (some ⟨g, i + m, none⟩) 1 c]).run Try.prog W1 = .ok (.tuple #[]) (W1.setRow g R2) := fun ty c => by
    have ea : (⟨g, i + m, none⟩ : Addr) = ⟨g, (i + m) * 1, none⟩ := by rw [Nat.mul_one]
    rw [ea]
    rw [hR2, hzs]
    exact run_clearS W1 59 29 ty _ Try.underlying59 hv23 g _ 1 c _ 29 hB1 (by decide) (by intro u hu; rw [zc_kids] at hu; simp at hu; subst hu; rfl) (by rw [← hzs]; exact hfit2)
  have HW1 := Lib.hid hW1
  have e1 : n - (i + m) = 1 := by omega
  have e2 : i + (n - j) = i + m := by omega
  have hic : i ≤ cap := by omega
  have hjc : j ≤ cap := by omega
  have hjn : j ≤ n := by omega
  have hne : ¬ ((i : Int) = (j : Int)) := by omega
  have HT := Lib.hid ht
  have HR2 := Lib.hid hR2
  have HN := Lib.hid hnews
  have HL := Lib.hid hlen
  clear hW1 hW1r hcell hji hnews hv23 hlen hzs hB ht hR2
  have mixed : Try.prog.follows .mixedOrders = true := by kernel_rfl
  simp only [Nat.mul_one] at hA
  go_enter Try.func80, Try.ntmps80
  go_wp2_with fail
  go_region_law_o (refine step_append_room rfl (.tmp 22) (.tmp 25) 59 rfl 29 i0 1 Try.underlying59 hI hz1 g 0 i cap (by simp [Act.eval, Act.put]) A (n - j) (cap - j) news (by simp [Act.eval, Act.put, hA]) (by rw [hnl, hm]) hsrc.out h1n.out (by omega) hsp.out ?_; rw [← HW1.out])
  clear hsrc hsp h1n HW1 hA
  go_wp2_with fail
  go_ret
  refine ⟨g, cap, rfl, by rw [show n - 1 = i + m by omega]; rfl, ?_, hK1.setRow (by simp) _⟩
  have hj2 := hij.out
  refine ⟨?_, .inr ⟨g, cap, _, rfl, hg, hB1.row _, by omega, hcm, by rw [HR2.out, over_size _ _ _ hfit2, hos, hs], ?_⟩⟩
  · rw [List.length_append, List.length_take, List.length_drop, HL.out]; omega
  · rw [HR2.out, show n - 1 = i + m by omega, over_take_le _ _ _ _ (Nat.le_refl _) (by omega), over_take _ _ _ _ (by rw [hnl]; omega) (by omega), ← hj2, ← HN.out, ← HT.out, List.take_take, show min (i * 1) (n * 1) = i * 1 by omega]

set_option maxRecDepth 100000 in
set_option maxHeartbeats 4000000 in
theorem del_pairs (base i j n : Nat) (v : Value) (cs : List Value) (w : World) (h : w.ownsRow base 32 2 v n cs) (hi : i < n) (hij : Hid (j = i + 1)) (hn : n ≤ 1000) (h1 : ∀ u ∈ cs, u.oneCell' = true) :
    Calls Try.prog 78 #[v, .int .i64 i, .int .i64 j] w fun e w' => ∃ g cap, v = .slice (some ⟨g, 0, none⟩) n cap ∧ e = .returned (.slice (some ⟨g, 0, none⟩) (n - 1) cap) ∧ w'.ownsRow base 32 2 (.slice (some ⟨g, 0, none⟩) (n - 1) cap) (n - 1) (cs.take (i * 2) ++ cs.drop ((i + 1) * 2)) ∧ Keep [g] w w' := by
  obtain ⟨i0, hI, hz0, hz1, hz2⟩ := info_parts info33
  have hlen := h.1
  obtain ⟨g, cap, cur, rfl, hg, hB, hc, hcm, hs, ht⟩ := own_blk h (by omega)
  have hmx : cap ≤ 9223372036854775807 := by unfold maxLen at hcm; omega
  have hv23 : ∀ w, (zeroValue 32).run Try.prog w = .ok (.agg #[.string ByteArray.empty, .string ByteArray.empty]) w := fun w => by simp [zeroValue, typeInfo, hI, hz0]
  obtain ⟨m, hm⟩ : ∃ m, m = n - j := ⟨_, rfl⟩
  have hji := hij.out
  -- the cells that move
  obtain ⟨news, hnews⟩ : ∃ news, news = cs.drop (j * 2) := ⟨_, rfl⟩
  have hnl : news.length = m * 2 := by rw [hnews, List.length_drop, hlen, hm, Nat.sub_mul]
  have hcell : ∀ t u, news[t]? = some u → w.cell? ⟨g, j * 2 + t, none⟩ = some u := fun t u hu => by
    rw [hnews, List.getElem?_drop, ← ht, List.getElem?_take] at hu
    split at hu
    · rw [hB.cell]; rwa [Array.getElem?_toList] at hu
    · cases hu
  obtain ⟨A, hA, hsrc⟩ : ∃ A : Addr, (if cap = j then some (⟨g, 0, none⟩ : Addr) else some ⟨g, j * 2, none⟩) = some A ∧ Hid (∀ t u, news[t]? = some u → w.drew.cell? (A.add t) = some u) := by
    by_cases hcj : cap = j
    · refine ⟨⟨g, 0, none⟩, by simp [hcj], Lib.hid fun t u hu => ?_⟩
      have h0 : news.length = 0 := by rw [hnl, hm, show n - j = 0 by omega, Nat.zero_mul]
      rw [List.length_eq_zero_iff.1 h0] at hu
      simp at hu
    · refine ⟨⟨g, j * 2, none⟩, by simp [hcj], Lib.hid fun t u hu => ?_⟩
      rw [addr_at]
      exact hcell t u hu
  have hfit1 : i * 2 + news.length ≤ cur.size := by rw [hnl, hs, ← Nat.add_mul]; exact Nat.mul_le_mul_right _ (by omega)
  have hsp : Hid (∀ t, t < news.length → (w.drew.cell? ⟨g, 0 + i * 2 + t, none⟩).isSome = true ∧ w.drew.frozen? ⟨g, 0 + i * 2 + t, none⟩ = false) := Lib.hid fun t ht => by
    refine ⟨?_, hB.frozen _⟩
    show (w.cell? _).isSome = true
    rw [hB.cell, Nat.zero_add, Array.getElem?_eq_getElem (by omega)]; rfl
  have h1n : Hid (∀ u ∈ news, u.oneCell' = true) := Lib.hid fun u hu => h1 u (by rw [hnews] at hu; exact List.mem_of_mem_drop hu)
  -- the world behind the append
  obtain ⟨W1, hW1⟩ : ∃ W1, W1 = w.drew.setCells g (0 + i * 2) news := ⟨_, rfl⟩
  have hW1r : W1 = w.drew.setRow g (over cur (i * 2) news) := by rw [hW1, Nat.zero_add]; exact setCells_row g 32 news _ cur w.drew hB hfit1
  have hB1 : Blk W1 g 32 (over cur (i * 2) news) := by rw [hW1r]; exact Blk.row (w := w.drew) hB _
  have hK1 : Keep [g] w W1 := by rw [hW1r]; exact (Keep.refl [g] w).drew.setRow (by simp) _
  obtain ⟨zs, hzs⟩ : ∃ zs, zs = (Builtin.zeroCells (Value.cells (.agg #[.string ByteArray.empty, .string ByteArray.empty])) 1).toList := ⟨_, rfl⟩
  have hzl : zs.length = 2 := by rw [hzs, zc_pairs]; rfl
  have hos := over_size cur (i * 2) news hfit1
  have hfit2 : (i + m) * 2 + zs.length ≤ (over cur (i * 2) news).size := by rw [hos, hzl, hs]; omega
  obtain ⟨R2, hR2⟩ : ∃ R2, R2 = over (over cur (i * 2) news) ((i + m) * 2) zs := ⟨_, rfl⟩
  have hcl : ∀ ty c, (Builtin.clear_ #[25] ty #[.slice (some ⟨g, (i + m) * 2, none⟩) 1 c]).run Try.prog W1 = .ok (.tuple #[]) (W1.setRow g R2) := fun ty c => by
    rw [hR2, hzs]
    exact run_clearS W1 25 32 ty _ Try.underlying25 hv23 g _ 1 c _ 32 hB1 (by decide) (by intro u hu; rw [zc_pairs] at hu; simp at hu; subst hu; rfl) (by rw [← hzs]; exact hfit2)
  have HW1 := Lib.hid hW1
  have e1 : n - (i + m) = 1 := by omega
  have e2 : i + (n - j) = i + m := by omega
  have hic : i ≤ cap := by omega
  have hjc : j ≤ cap := by omega
  have hjn : j ≤ n := by omega
  have hne : ¬ ((i : Int) = (j : Int)) := by omega
  have HT := Lib.hid ht
  have HR2 := Lib.hid hR2
  have HN := Lib.hid hnews
  have HL := Lib.hid hlen
  clear hW1 hW1r hcell hji hnews hv23 hlen hzs hB ht hR2
  have mixed : Try.prog.follows .mixedOrders = true := by kernel_rfl
  go_enter Try.func78, Try.ntmps78
  go_wp2_with fail
  go_region_law_o (refine step_append_room rfl (.tmp 22) (.tmp 25) 25 rfl 32 i0 2 Try.underlying25 hI hz1 g 0 i cap (by simp [Act.eval, Act.put]) A (n - j) (cap - j) news (by simp [Act.eval, Act.put, hA]) (by rw [hnl, hm]) hsrc.out h1n.out (by omega) hsp.out ?_; rw [← HW1.out])
  clear hsrc hsp h1n HW1 hA
  go_wp2_with fail
  go_ret
  refine ⟨g, cap, rfl, by rw [show n - 1 = i + m by omega]; rfl, ?_, hK1.setRow (by simp) _⟩
  have hj2 := hij.out
  refine ⟨?_, .inr ⟨g, cap, _, rfl, hg, hB1.row _, by omega, hcm, by rw [HR2.out, over_size _ _ _ hfit2, hos, hs], ?_⟩⟩
  · rw [List.length_append, List.length_take, List.length_drop, HL.out]; omega
  · rw [HR2.out, show n - 1 = i + m by omega, over_take_le _ _ _ _ (Nat.le_refl _) (by omega), over_take _ _ _ _ (by rw [hnl]; omega) (by omega), ← hj2, ← HN.out, ← HT.out, List.take_take, show min (i * 2) (n * 2) = i * 2 by omega]
end Go.Proofs.Ytfmbikmpobieoaa
/- slices.Insert into a row that is known whole. -/
namespace Go.Proofs.Ytfmbikmpobieoaa
open Go.RowKit Go.Lib
set_option linter.unusedVariables false
set_option maxRecDepth 100000
set_option maxRecDepth 100000
set_option linter.unusedSimpArgs false
theorem over_drop (X : Array Value) (o : Nat) (vs : List Value) (h : o + vs.length ≤ X.size ∨ o ≤ X.size) : (over X o vs).toList.drop (o + vs.length) = X.toList.drop (o + vs.length) := by
  unfold over splice
  have ho : o ≤ X.size := by omega
  rw [List.drop_append, List.drop_append, List.drop_of_length_le (by simp; omega), List.drop_of_length_le (l := vs) (by simp; omega), List.length_take, show min o X.toList.length = o by simp; omega, show o + vs.length - o - vs.length = 0 by omega, List.drop_zero, List.nil_append, List.nil_append]
theorem over_mid (X : Array Value) (o : Nat) (vs : List Value) (k : Nat) (h : k = vs.length) (hf : o + k ≤ X.size) : ((over X o vs).toList.drop o).take k = vs := by
  unfold over splice
  rw [List.drop_append, List.drop_of_length_le (by simp; omega), List.length_take, Array.length_toList, show min o X.size = o by omega, Nat.sub_self, List.drop_zero, List.nil_append, List.take_append_of_le_length (by omega), List.take_of_length_le (by omega)]
theorem zsz_pairs : (Value.cells (.agg #[.string ByteArray.empty, .string ByteArray.empty])).size = 2 := by simp [Value.cells]
theorem zsz_kids : (Value.cells (.pointer none)).size = 1 := by simp [Value.cells]

/-- what slices.Insert leaves -/
def InsPost27 (base i n m : Nat) (v : Value) (cs el : List Value) (w : World) (e : Ending) (w' : World) : Prop :=
  ∃ v', e = .returned v' ∧ w'.ownsRow base 32 2 v' (n + m) (cs.take (i * 2) ++ (el ++ cs.drop (i * 2))) ∧ (v'.ownBlock = v.ownBlock ∨ v'.ownBlock = some w.heap.size) ∧ Keep v.ownBlock.toList w w'
set_option maxRecDepth 100000 in
set_option maxHeartbeats 4000000 in
theorem ins_pairs_shift (base i n m vb : Nat) (v : Value) (cs el : List Value) (w : World) (h : w.ownsRow base 32 2 v n cs) (hi : i < n) (hm : 0 < m) (hn : n + m ≤ 1000) (h1 : ∀ u ∈ cs, u.oneCell' = true) (h1e : ∀ u ∈ el, u.oneCell' = true)
    (hv : Blk w vb 32 el.toArray) (hel : el.length = m * 2) (hne : v.ownBlock ≠ some vb) (g cap : Nat) (hvv : v = .slice (some ⟨g, 0, none⟩) n cap) (hroom : n + m ≤ cap) :
    Calls Try.prog 83 #[v, .int .i64 i, .slice (some ⟨vb, 0, none⟩) m m] w (InsPost27 base i n m v cs el w) := by
  obtain ⟨i0, hI, hz0, hz1, hz2⟩ := info_parts info33
  have hlen := h.1
  obtain ⟨g', cap', cur, hv', hg, hB, hc, hcm, hs, ht⟩ := own_blk h (by omega)
  subst hvv
  simp only [Value.slice.injEq, Option.some.injEq, Addr.mk.injEq, and_true, true_and] at hv'
  obtain ⟨rfl, rfl⟩ := hv'
  have hvg : vb ≠ g := fun e => hne (by rw [e]; rfl)
  have hmx : cap ≤ 9223372036854775807 := by unfold maxLen at hcm; omega
  have hsz : (Try.prog.info? 32).map (·.size) = some 2 := by rw [hI]; simp [hz1]
  have hsz' : ∀ w, (Go.sizeOf 32).run Try.prog w = .ok 2 w := fun w => by simp [sizeOf, typeInfo, hI, hz1]
  have hq1 : ¬ ((m : Int) = 0) := by omega
  have hq2 : ¬ ((i : Int) = (n : Int)) := by omega
  have hov : ∀ lb cb, (callFunc 87 #[.slice (some ⟨vb, 0, none⟩) m m, .slice (some ⟨g, (i + m) * 2, none⟩) lb cb]).run Try.prog w = .ok (.value (.bool false)) w := fun lb cb => by
    have hshv : w.shape? vb = some (32, el.toArray.size) := by have h' := hv; unfold Blk at h'; simp [World.shape?, h']
    have hshg : w.shape? g = some (32, cur.size) := by have h' := hB; unfold Blk at h'; simp [World.shape?, h']
    rw [run_callFunc_extern Try.func87 (by kernel_rfl) (by kernel_rfl) (by kernel_rfl) (e := Extern.SlicesOverlaps.overlaps #[25, 25] #[4]) (by kernel_rfl),
      Lib.run_overlaps_apart w 25 4 32 Try.underlying25 2 hsz' ⟨vb, 0, none⟩ ⟨g, (i + m) * 2, none⟩ m m lb cb hvg _ _ _ _ hshv hshg (by rw [hs]; omega) (hv.frozen _) (hv.frozen _)]
    rfl
  obtain ⟨D, hD⟩ : ∃ D, D = cs.drop (i * 2) := ⟨_, rfl⟩
  have hDl : D.length = (n - i) * 2 := by rw [hD, List.length_drop, hlen, Nat.sub_mul]
  have hDc : ∀ j u, D[j]? = some u → w.cell? ⟨g, i * 2 + j, none⟩ = some u := fun j u hu => by
    rw [hD, List.getElem?_drop, ← ht, List.getElem?_take] at hu
    split at hu
    · rw [hB.cell]; rwa [Array.getElem?_toList] at hu
    · cases hu
  have hf1 : (i + m) * 2 + D.length ≤ cur.size := by rw [hDl, hs, ← Nat.add_mul]; exact Nat.mul_le_mul_right _ (by omega)
  obtain ⟨R1, hR1⟩ : ∃ R1, R1 = over cur ((i + m) * 2) D := ⟨_, rfl⟩
  have hR1s : R1.size = cur.size := by rw [hR1]; exact over_size _ _ _ hf1
  have hcp1 : ∀ ty dc sc, (Builtin.copy_ #[25, 25] ty #[.slice (some ⟨g, (i + m) * 2, none⟩) (n + m - (i + m)) dc, .slice (some ⟨g, (i) * 2, none⟩) (n + m - i) sc]).run Try.prog w.drew = .ok (goInt ((n - i : Nat) : Int)) (w.drew.setRow g R1) := fun ty dc sc => by
    have e := run_copyS (P := Try.prog) w.drew 25 25 ty 32 2 g ((i + m) * 2) (n + m - (i + m)) dc ⟨g, i * 2, none⟩ (n + m - i) sc cur 32 D Try.underlying25 hsz hB
      (by rw [hDl]; congr 1; simp only [Nat.min_def]; split <;> omega) (fun j u hu => by rw [addr_at]; exact hDc j u hu) hf1 (fun u hu => h1 u (by rw [hD] at hu; exact List.mem_of_mem_drop hu))
    rw [show Nat.min (n + m - i) (n + m - (i + m)) = n - i by simp only [Nat.min_def]; split <;> omega, ← hR1] at e
    simpa only [Nat.mul_one] using e
  have hB1 : Blk (w.drew.setRow g R1) g 32 R1 := Blk.row (w := w.drew) hB _
  have hK1 : Keep [g] w (w.drew.setRow g R1) := (Keep.refl [g] w).drew.setRow (by simp) _
  have hv1 : Blk (w.drew.setRow g R1) vb 32 el.toArray := hv.keep hK1 (by simpa using hvg)
  have hf2 : i * 2 + el.length ≤ R1.size := by rw [hel, hR1s, hs, ← Nat.add_mul]; exact Nat.mul_le_mul_right _ (by omega)
  obtain ⟨R2, hR2⟩ : ∃ R2, R2 = over R1 (i * 2) el := ⟨_, rfl⟩
  have hR2s : R2.size = cur.size := by rw [hR2, over_size _ _ _ hf2]; exact hR1s
  obtain ⟨W1, hW1⟩ : ∃ W1, W1 = w.drew.setRow g R1 := ⟨_, rfl⟩
  rw [← hW1] at hB1 hK1 hv1 hcp1
  have hcp2 : ∀ ty dc, (Builtin.copy_ #[25, 25] ty #[.slice (some ⟨g, (i) * 2, none⟩) (n + m - i) dc, .slice (some ⟨vb, 0, none⟩) m m]).run Try.prog W1 = .ok (goInt m) (W1.setRow g R2) := fun ty dc => by
    have e := run_copyS (P := Try.prog) W1 25 25 ty 32 2 g (i * 2) (n + m - i) dc ⟨vb, 0, none⟩ m m R1 32 el Try.underlying25 hsz hB1
      (by rw [hel]; congr 1; simp only [Nat.min_def]; split <;> omega) (fun j u hu => by rw [addr_at, Nat.zero_add, hv1.cell]; simpa using hu) hf2 h1e
    rw [show Nat.min m (n + m - i) = m by simp only [Nat.min_def]; split <;> omega, ← hR2] at e
    simpa only [Nat.mul_one] using e
  have hw1 : IntKind.i64.wrap ((i : Int) + (m : Int)) = (i : Int) + (m : Int) := IntWalk.i64_in _ (by omega)
  have hb1 : (0 : Int) ≤ (i : Int) + (m : Int) := by omega
  have hin : i ≤ n := by omega
  have htn : ((i : Int) + (m : Int)).toNat = i + m := by omega
  have hb2 : ¬ (cap = i + m) := by omega
  have hb3 : (i : Int) ≤ (n : Int) + (m : Int) := by omega
  have hb4 : ¬ (cap = i) := by omega
  have HT := Lib.hid ht
  have HD := Lib.hid hD
  have HL := Lib.hid hlen
  have HR1 := Lib.hid hR1
  have HR2 := Lib.hid hR2
  have HS := Lib.hid hs
  have HE := Lib.hid hel
  have HDL := Lib.hid hDl
  clear hW1 hR1 hR2 hD ht hlen hsz hsz' hDc hs hB hv hv1 h hne hel hDl
  have mixed : Try.prog.follows .mixedOrders = true := by kernel_rfl
  go_enter Try.func83, Try.ntmps83
  go_wp2_with (simp only [hov])
  go_region_law_o (refine step_copyR rfl _ _ 25 25 rfl _ _ (by simp [Act.eval, Act.put]) (by simp [Act.eval, Act.put]) (hcp1 _ _ _) ?_)
  go_wp2_with (refine wpList_copyR _ rfl _ _ 25 25 rfl _ _ rfl rfl (hcp2 _ _) ?_)
  go_ret
  refine ⟨.slice (some ⟨g, 0, none⟩) (n + m) cap, rfl, ⟨?_, .inr ⟨g, cap, R2, rfl, hg, hB1.row R2, hroom, hcm, by rw [hR2s, HS.out], ?_⟩⟩, .inl rfl, hK1.setRow (by simp) _⟩
  · rw [List.length_append, List.length_append, List.length_take, List.length_drop, HL.out, HE.out]; omega
  · have e1 : R2.toList.take (i * 2 + el.length) = R1.toList.take (i * 2) ++ el := by rw [HR2.out]; exact over_take _ _ _ _ rfl (by rw [hR1s, HS.out]; omega)
    have e2 : R2.toList.take ((n + m) * 2) = R2.toList.take (i * 2 + el.length) ++ (R2.toList.drop (i * 2 + el.length)).take ((n - i) * 2) := by
      rw [← List.take_add, HE.out]; congr 1; omega
    have e3 : R2.toList.drop (i * 2 + el.length) = R1.toList.drop (i * 2 + el.length) := by rw [HR2.out]; exact over_drop _ _ _ (by omega)
    have e4 : (R1.toList.drop (i * 2 + el.length)).take ((n - i) * 2) = D := by
      rw [HR1.out, HE.out, ← Nat.add_mul]; exact over_mid _ _ _ _ HDL.out.symm (by rw [HDL.out] at hf1; omega)
    have e5 : R1.toList.take (i * 2) = cs.take (i * 2) := by
      rw [HR1.out, over_take_le _ _ _ _ (by omega) (by omega), ← HT.out, List.take_take, show min (i * 2) (n * 2) = i * 2 by omega]
    rw [e2, e3, e4, e1, e5, HD.out, List.append_assoc]
set_option maxRecDepth 100000 in
set_option maxHeartbeats 4000000 in
theorem ins_pairs_grow (base i n m vb : Nat) (v : Value) (cs el : List Value) (w : World) (h : w.ownsRow base 32 2 v n cs) (hi : i < n) (hm : 0 < m) (hn : n + m ≤ 1000) (h1 : ∀ u ∈ cs, u.oneCell' = true) (h1e : ∀ u ∈ el, u.oneCell' = true)
    (hv : Blk w vb 32 el.toArray) (hel : el.length = m * 2) (hbase : base ≤ w.heap.size) (g cap : Nat) (hvv : v = .slice (some ⟨g, 0, none⟩) n cap) (hroom : cap < n + m) :
    Calls Try.prog 83 #[v, .int .i64 i, .slice (some ⟨vb, 0, none⟩) m m] w (InsPost27 base i n m v cs el w) := by
  obtain ⟨i0, hI, hz0, hz1, hz2⟩ := info_parts info33
  have hlen := h.1
  obtain ⟨g', cap', cur, hv', hg, hB, hc, hcm, hs, ht⟩ := own_blk h (by omega)
  subst hvv
  simp only [Value.slice.injEq, Option.some.injEq, Addr.mk.injEq, and_true, true_and] at hv'
  obtain ⟨rfl, rfl⟩ := hv'
  have hsz : (Try.prog.info? 32).map (·.size) = some 2 := by rw [hI]; simp [hz1]
  have hq1 : ¬ ((m : Int) = 0) := by omega
  have hq2 : ¬ ((i : Int) = (n : Int)) := by omega
  have hq3 : (cap : Int) < (n : Int) + (m : Int) := by omega
  have hkk : (n : Int) + (m : Int) - (i : Int) = ((n + m - i : Nat) : Int) := by omega
  have hik : i + (n + m - i) = n + m := by omega
  have hcc : ∀ j u, cs[j]? = some u → w.cell? ⟨g, j, none⟩ = some u := fun j u hu => by
    rw [← ht, List.getElem?_take] at hu
    split at hu
    · rw [hB.cell]; rwa [Array.getElem?_toList] at hu
    · cases hu
  have hold : (Builtin.firstCells i0.size i (.slice (some ⟨g, 0, none⟩) i cap)).run Try.prog w.drew = .ok (cs.take (i * 2)).toArray w.drew := by
    rw [hz1]
    refine run_firstCells_some w.drew 2 i ⟨g, 0, none⟩ i cap (cs.take (i * 2)) (by rw [List.length_take, hlen]; omega) (fun j u hj => ?_)
    rw [addr_at, Nat.zero_add]
    rw [List.getElem?_take] at hj
    split at hj
    · exact hcc j u hj
    · cases hj
  have hrz : ∀ ty, (Builtin.append_ #[25, 3] ty #[.slice (some ⟨g, 0, none⟩) i cap, .int .i64 ((n : Int) + (m : Int) - (i : Int))]).run Try.prog w =
      .ok (.slice (some ⟨w.heap.size, 0, none⟩) (n + m) (grownCap w (n + m) cap 32)) (w.drew.alloc (.cells ((cs.take (i * 2)).toArray ++ Builtin.zeroCells (Value.cells (.agg #[.string ByteArray.empty, .string ByteArray.empty])) (n + m - i) ++ Builtin.zeroCells (Value.cells (.agg #[.string ByteArray.empty, .string ByteArray.empty])) (grownCap w (n + m) cap 32 - (n + m))) 32)) := fun ty => by
    have h := Lib.run_append_grow_zeros (P := Try.prog) w 25 3 ty 32 i0 _ .i64 .i64 Try.underlying25 Try.underlying3 hI hz0 (some ⟨g, 0, none⟩) i cap (cs.take (i * 2)) hold (n + m - i) (by omega) (by omega) (by omega) (by omega) (by rw [hz2]; omega) (by rw [hz2, hik]; exact growslice_fits hroom (by omega))
    rw [hik] at h
    rw [hkk]
    exact h
  have hcg := grownCap_ge w (n + m) cap 32
  have hcgm := grownCap_le_maxLen w (n + m) cap 32 (by unfold maxLen; omega)
  generalize grownCap w (n + m) cap 32 = G at *
  obtain ⟨ROW, hROW⟩ : ∃ ROW : Array Value, ROW = (cs.take (i * 2)).toArray ++ Builtin.zeroCells (Value.cells (.agg #[.string ByteArray.empty, .string ByteArray.empty])) (n + m - i) ++ Builtin.zeroCells (Value.cells (.agg #[.string ByteArray.empty, .string ByteArray.empty])) (G - (n + m)) := ⟨_, rfl⟩
  rw [← hROW] at hrz
  have hRs : ROW.size = G * 2 := by
    rw [hROW, Array.size_append, Array.size_append, List.size_toArray, List.length_take, hlen]
    simp only [Builtin.zeroCells, Array.size_map, Array.size_range, zsz_pairs]
    omega
  have hRt : ROW.toList.take (i * 2) = cs.take (i * 2) := by
    have e : ROW.toList = cs.take (i * 2) ++ ((Builtin.zeroCells (Value.cells (.agg #[.string ByteArray.empty, .string ByteArray.empty])) (n + m - i)).toList ++ (Builtin.zeroCells (Value.cells (.agg #[.string ByteArray.empty, .string ByteArray.empty])) (G - (n + m))).toList) := by rw [hROW]; simp
    rw [e, List.take_append_of_le_length (by rw [List.length_take, hlen]; omega), List.take_take, Nat.min_self]
  obtain ⟨N, hN⟩ : ∃ N, N = w.heap.size := ⟨_, rfl⟩
  rw [← hN] at hrz hbase
  obtain ⟨W1, hW1⟩ : ∃ W1, W1 = w.drew.alloc (.cells ROW 32) := ⟨_, rfl⟩
  have hBN : Blk W1 N 32 ROW := by rw [hW1, hN]; exact Blk.new w.drew 32 ROW
  have hK0 : Keep [N] w W1 := by rw [hW1]; exact (Keep.refl [N] w).drew.alloc _
  have hbl := hB.lt
  have hvl := hv.lt
  have hB1 : Blk W1 g 32 cur := hB.keep hK0 (by simp; omega)
  have hv1 : Blk W1 vb 32 el.toArray := hv.keep hK0 (by simp; omega)
  obtain ⟨D, hD⟩ : ∃ D, D = cs.drop (i * 2) := ⟨_, rfl⟩
  have hDl : D.length = (n - i) * 2 := by rw [hD, List.length_drop, hlen, Nat.sub_mul]
  obtain ⟨R1, hR1⟩ : ∃ R1, R1 = over ROW (i * 2) el := ⟨_, rfl⟩
  have hf1 : i * 2 + el.length ≤ ROW.size := by rw [hel, hRs, ← Nat.add_mul]; exact Nat.mul_le_mul_right _ (by omega)
  have hR1s : R1.size = ROW.size := by rw [hR1]; exact over_size _ _ _ hf1
  have hf2 : (i + m) * 2 + D.length ≤ R1.size := by rw [hDl, hR1s, hRs, ← Nat.add_mul]; exact Nat.mul_le_mul_right _ (by omega)
  obtain ⟨R2, hR2⟩ : ∃ R2, R2 = over R1 ((i + m) * 2) D := ⟨_, rfl⟩
  have hR2s : R2.size = ROW.size := by rw [hR2, over_size _ _ _ hf2]; exact hR1s
  have hcpA : ∀ (W : World), W.heap = W1.heap → ∀ ty dc, (Builtin.copy_ #[25, 25] ty #[.slice (some ⟨N, (i) * 2, none⟩) (n + m - i) dc, .slice (some ⟨vb, 0, none⟩) m m]).run Try.prog W = .ok (goInt m) (W.setRow N R1) := fun W hW ty dc => by
    have hbn : Blk W N 32 ROW := by unfold Blk; rw [hW]; exact hBN
    have hbv : Blk W vb 32 el.toArray := by unfold Blk; rw [hW]; exact hv1
    have e := run_copyS (P := Try.prog) W 25 25 ty 32 2 N (i * 2) (n + m - i) dc ⟨vb, 0, none⟩ m m ROW 32 el Try.underlying25 hsz hbn
      (by rw [hel]; congr 1; simp only [Nat.min_def]; split <;> omega) (fun j u hu => by rw [addr_at, Nat.zero_add, hbv.cell]; simpa using hu) hf1 h1e
    rw [show Nat.min m (n + m - i) = m by simp only [Nat.min_def]; split <;> omega, ← hR1] at e
    simpa only [Nat.mul_one] using e
  have hcpB : ∀ (W : World), W.heap = (W1.setRow N R1).heap → ∀ ty dc sc, (Builtin.copy_ #[25, 25] ty #[.slice (some ⟨N, (i + m) * 2, none⟩) (n + m - (i + m)) dc, .slice (some ⟨g, (i) * 2, none⟩) (n - i) sc]).run Try.prog W = .ok (goInt ((n - i : Nat) : Int)) (W.setRow N R2) := fun W hW ty dc sc => by
    have hbn : Blk W N 32 R1 := by unfold Blk; rw [hW]; exact hBN.row R1
    have hbg : Blk W g 32 cur := by unfold Blk; rw [hW]; exact hB1.keep ((Keep.refl [N] W1).setRow (by simp) R1) (by simp; omega)
    have e := run_copyS (P := Try.prog) W 25 25 ty 32 2 N ((i + m) * 2) (n + m - (i + m)) dc ⟨g, i * 2, none⟩ (n - i) sc R1 32 D Try.underlying25 hsz hbn
      (by rw [hDl]; congr 1; simp only [Nat.min_def]; split <;> omega) (fun j u hu => by
        rw [addr_at, hbg.cell]
        rw [hD, List.getElem?_drop] at hu
        have := hcc _ u hu
        rwa [hB.cell] at this) hf2 (fun u hu => h1 u (by rw [hD] at hu; exact List.mem_of_mem_drop hu))
    rw [show Nat.min (n - i) (n + m - (i + m)) = n - i by simp only [Nat.min_def]; split <;> omega, ← hR2] at e
    simpa only [Nat.mul_one] using e
  have hG63 : G ≤ 9223372036854775807 := by unfold maxLen at hcgm; omega
  have hGi : ¬ (G = i) := by omega
  have hGim : ¬ (G = i + m) := by omega
  have hci : ¬ (cap = i) := by omega
  have hw1 : IntKind.i64.wrap ((i : Int) + (m : Int)) = (i : Int) + (m : Int) := IntWalk.i64_in _ (by omega)
  have hb1 : (0 : Int) ≤ (i : Int) + (m : Int) := by omega
  have hin : i ≤ n := by omega
  have htn : ((i : Int) + (m : Int)).toNat = i + m := by omega
  have hb3 : (i : Int) ≤ (n : Int) := by omega
  have HBe : Below w.heap.size w W1 := by rw [hW1]; exact ((Below.refl _ w).drew).alloc (Nat.le_refl _) _
  have HN := Lib.hid hN
  have HD := Lib.hid hD
  have HL := Lib.hid hlen
  have HR1 := Lib.hid hR1
  have HR2 := Lib.hid hR2
  have HRS := Lib.hid hRs
  have HRT := Lib.hid hRt
  have HE := Lib.hid hel
  have HDL := Lib.hid hDl
  have hE1 : ((w.alloc (.cells ROW 32)).drew).heap = W1.heap := by rw [hW1]; rfl
  have hE2 : (((w.alloc (.cells ROW 32)).drew.setRow N R1).drew).heap = (W1.setRow N R1).heap := by rw [hW1]; rfl
  have hE3 : (((w.alloc (.cells ROW 32)).drew.setRow N R1).drew.setRow N R2).heap = ((W1.setRow N R1).setRow N R2).heap := by rw [hW1]; rfl
  have HW1 := Lib.hid hW1
  rw [hW1] at hcpA hcpB hE1 hE2
  have HE3 := Lib.hid hE3
  clear hkk hik hold hROW hRt hRs hN hD hlen hR1 hR2 hel hDl hW1 hv1 hB1 hB hv ht hs h hcc hsz hE3
  have mixed : Try.prog.follows .mixedOrders = true := by kernel_rfl
  go_enter Try.func83, Try.ntmps83
  go_wp2_with (first
    | (at_builtin; refine Lib.wpList_append_run _ rfl _ _ _ _ rfl _ _ rfl rfl _ _ (hrz _) ?_)
    | (refine wpList_copyR _ rfl _ _ 25 25 rfl _ _ rfl rfl (hcpA _ hE1 _ _) ?_))
  go_region_law_o (refine step_copyR rfl _ _ 25 25 rfl (.slice (some ⟨N, (i + m) * 2, none⟩) (n + m - (i + m)) (G - (i + m))) (.slice (some ⟨g, (i) * 2, none⟩) (n - i) (cap - i)) (by simp [Act.eval, Act.put]) (by simp [Act.eval, Act.put]) (hcpB _ hE2 3 (G - (i + m)) (cap - i)) ?_)
  go_wp2_with fail
  go_ret
  refine ⟨.slice (some ⟨N, 0, none⟩) (n + m) G, rfl, ⟨?_, .inr ⟨N, G, R2, rfl, hbase, ?_, hcg, hcgm, by rw [hR2s, HRS.out], ?_⟩⟩, .inr (by rw [← HN.out]; rfl), Keep.of_below (below_setRow ((below_setRow (((Below.refl w.heap.size w).alloc (Nat.le_refl _) _).drew) (by rw [HN.out]; exact Nat.le_refl _) _).drew) (by rw [HN.out]; exact Nat.le_refl _) _)⟩
  · rw [List.length_append, List.length_append, List.length_take, List.length_drop, HL.out, HE.out]; omega
  · have hb : Blk ((W1.setRow N R1).setRow N R2) N 32 R2 := (hBN.row R1).row R2
    unfold Blk at hb
    rw [← HE3.out] at hb
    exact hb
  · have e1 : R2.toList.take ((n + m) * 2) = R1.toList.take ((i + m) * 2) ++ D := by
      rw [HR2.out]; exact over_take _ _ _ _ (by rw [HDL.out, ← Nat.add_mul]; congr 1; omega) (by rw [hR1s, HRS.out]; exact Nat.mul_le_mul_right _ (by omega))
    have e2 : R1.toList.take ((i + m) * 2) = ROW.toList.take (i * 2) ++ el := by
      rw [HR1.out]; exact over_take _ _ _ _ (by rw [HE.out, ← Nat.add_mul]) (by rw [HRS.out]; exact Nat.mul_le_mul_right _ (by omega))
    rw [e1, e2, HRT.out, HD.out, List.append_assoc]
set_option maxRecDepth 100000 in
set_option maxHeartbeats 4000000 in
theorem ins_pairs_end (base n m vb : Nat) (v : Value) (cs el : List Value) (w : World) (h : w.ownsRow base 32 2 v n cs) (hm : 0 < m) (hn : n + m ≤ 1000) (h1e : ∀ u ∈ el, u.oneCell' = true)
    (hv : Blk w vb 32 el.toArray) (hel : el.length = m * 2) (hbase : base ≤ w.heap.size) :
    Calls Try.prog 83 #[v, .int .i64 n, .slice (some ⟨vb, 0, none⟩) m m] w (InsPost27 base n n m v cs el w) := by
  obtain ⟨i0, hI, hz0, hz1, hz2⟩ := info_parts info33
  have hq1 : ¬ ((m : Int) = 0) := by omega
  have hlen := Lib.hid h.1
  have hge := own_ge h
  obtain ⟨A, cap, hvv, hcap⟩ : ∃ A cap, v = .slice A n cap ∧ n ≤ cap := by
    rcases h.2 with ⟨h1, h2⟩ | ⟨g, cap, cur, h1, _, _, h3, _⟩
    · exact ⟨none, 0, by rw [h1, h2], by omega⟩
    · exact ⟨_, cap, h1, h3⟩
  have hcv : ∀ j u, el[j]? = some u → w.cell? ((⟨vb, 0, none⟩ : Addr).add j) = some u := fun j u hu => by rw [addr_at, Nat.zero_add, hv.cell]; simpa using hu
  subst hvv
  clear hv
  by_cases hcn : cap = n
  · subst hcn
    go_enter Try.func83, Try.ntmps83
    go_wp2_with (at_builtin; refine wpList_append_own_at _ rfl _ _ 25 rfl base 32 i0 _ 2 32 Try.underlying25 hI hz0 hz1 hz2 zsz_pairs (by decide) (.slice A cap cap) cap cs rfl h ⟨vb, 0, none⟩ m m el rfl hel hcv h1e (by unfold maxLen; omega) (by omega) hbase ?_; intro v' wa hown' hgrow hnil hat)
    go_ret
    refine ⟨v', rfl, ?_, hat, ⟨⟨hgrow.os, hgrow.tape, hgrow.output, hgrow.size, fun i hi => by omega⟩, fun i hi hx => hgrow.block i hi (fun e => hx (by rw [← e]; simp))⟩⟩
    rw [List.take_of_length_le (by rw [hlen.out]; exact Nat.le_refl _), List.drop_of_length_le (by rw [hlen.out]; exact Nat.le_refl _), List.append_nil]
    exact hown'
  · go_enter Try.func83, Try.ntmps83
    go_wp2_with (at_builtin; refine wpList_append_own_at _ rfl _ _ 25 rfl base 32 i0 _ 2 32 Try.underlying25 hI hz0 hz1 hz2 zsz_pairs (by decide) (.slice A n cap) n cs rfl h ⟨vb, 0, none⟩ m m el rfl hel hcv h1e (by unfold maxLen; omega) (by omega) hbase ?_; intro v' wa hown' hgrow hnil hat)
    go_ret
    refine ⟨v', rfl, ?_, hat, ⟨⟨hgrow.os, hgrow.tape, hgrow.output, hgrow.size, fun i hi => by omega⟩, fun i hi hx => hgrow.block i hi (fun e => hx (by rw [← e]; simp))⟩⟩
    rw [List.take_of_length_le (by rw [hlen.out]; exact Nat.le_refl _), List.drop_of_length_le (by rw [hlen.out]; exact Nat.le_refl _), List.append_nil]
    exact hown'
theorem ins_pairs (base i n m vb : Nat) (v : Value) (cs el : List Value) (w : World) (h : w.ownsRow base 32 2 v n cs) (hi : i ≤ n) (hm : 0 < m) (hn : n + m ≤ 1000) (h1 : ∀ u ∈ cs, u.oneCell' = true) (h1e : ∀ u ∈ el, u.oneCell' = true)
    (hv : Blk w vb 32 el.toArray) (hel : el.length = m * 2) (hbase : base ≤ w.heap.size) (hne : v.ownBlock ≠ some vb) :
    Calls Try.prog 83 #[v, .int .i64 i, .slice (some ⟨vb, 0, none⟩) m m] w (InsPost27 base i n m v cs el w) := by
  rcases Nat.lt_or_eq_of_le hi with hlt | rfl
  · obtain ⟨g, cap, cur, hvv, hg, hB, hc, hcm, hs, ht⟩ := own_blk h (by omega)
    rcases Nat.lt_or_ge cap (n + m) with hr | hr
    · exact ins_pairs_grow base i n m vb v cs el w h hlt hm hn h1 h1e hv hel hbase g cap hvv hr
    · exact ins_pairs_shift base i n m vb v cs el w h hlt hm hn h1 h1e hv hel hne g cap hvv hr
  · exact ins_pairs_end base i m vb v cs el w h hm hn h1e hv hel hbase

/-- what slices.Insert leaves -/
def InsPost39 (base i n m : Nat) (v : Value) (cs el : List Value) (w : World) (e : Ending) (w' : World) : Prop :=
  ∃ v', e = .returned v' ∧ w'.ownsRow base 29 1 v' (n + m) (cs.take (i * 1) ++ (el ++ cs.drop (i * 1))) ∧ (v'.ownBlock = v.ownBlock ∨ v'.ownBlock = some w.heap.size) ∧ Keep v.ownBlock.toList w w'
set_option maxRecDepth 100000 in
set_option maxHeartbeats 4000000 in
theorem ins_kids_shift (base i n m vb : Nat) (v : Value) (cs el : List Value) (w : World) (h : w.ownsRow base 29 1 v n cs) (hi : i < n) (hm : 0 < m) (hn : n + m ≤ 1000) (h1 : ∀ u ∈ cs, u.oneCell' = true) (h1e : ∀ u ∈ el, u.oneCell' = true)
    (hv : Blk w vb 29 el.toArray) (hel : el.length = m * 1) (hne : v.ownBlock ≠ some vb) (g cap : Nat) (hvv : v = .slice (some ⟨g, 0, none⟩) n cap) (hroom : n + m ≤ cap) :
    Calls Try.prog 89 #[v, .int .i64 i, .slice (some ⟨vb, 0, none⟩) m m] w (InsPost39 base i n m v cs el w) := by
  obtain ⟨i0, hI, hz0, hz1, hz2⟩ := info_parts info39
  have hlen := h.1
  obtain ⟨g', cap', cur, hv', hg, hB, hc, hcm, hs, ht⟩ := own_blk h (by omega)
  subst hvv
  simp only [Value.slice.injEq, Option.some.injEq, Addr.mk.injEq, and_true, true_and] at hv'
  obtain ⟨rfl, rfl⟩ := hv'
  have hvg : vb ≠ g := fun e => hne (by rw [e]; rfl)
  have hmx : cap ≤ 9223372036854775807 := by unfold maxLen at hcm; omega
  have hsz : (Try.prog.info? 29).map (·.size) = some 1 := by rw [hI]; simp [hz1]
  have hsz' : ∀ w, (Go.sizeOf 29).run Try.prog w = .ok 1 w := fun w => by simp [sizeOf, typeInfo, hI, hz1]
  have hq1 : ¬ ((m : Int) = 0) := by omega
  have hq2 : ¬ ((i : Int) = (n : Int)) := by omega
  have hov : ∀ lb cb, (callFunc 91 #[.slice (some ⟨vb, 0, none⟩) m m, .slice (some ⟨g, (i + m), none⟩) lb cb]).run Try.prog w = .ok (.value (.bool false)) w := fun lb cb => by
    have hshv : w.shape? vb = some (29, el.toArray.size) := by have h' := hv; unfold Blk at h'; simp [World.shape?, h']
    have hshg : w.shape? g = some (29, cur.size) := by have h' := hB; unfold Blk at h'; simp [World.shape?, h']
    rw [run_callFunc_extern Try.func91 (by kernel_rfl) (by kernel_rfl) (by kernel_rfl) (e := Extern.SlicesOverlaps.overlaps #[59, 59] #[4]) (by kernel_rfl),
      Lib.run_overlaps_apart w 59 4 29 Try.underlying59 1 hsz' ⟨vb, 0, none⟩ ⟨g, (i + m), none⟩ m m lb cb hvg _ _ _ _ hshv hshg (by rw [hs]; omega) (hv.frozen _) (hv.frozen _)]
    rfl
  obtain ⟨D, hD⟩ : ∃ D, D = cs.drop (i * 1) := ⟨_, rfl⟩
  have hDl : D.length = (n - i) * 1 := by rw [hD, List.length_drop, hlen, Nat.sub_mul]
  have hDc : ∀ j u, D[j]? = some u → w.cell? ⟨g, i * 1 + j, none⟩ = some u := fun j u hu => by
    rw [hD, List.getElem?_drop, ← ht, List.getElem?_take] at hu
    split at hu
    · rw [hB.cell]; rwa [Array.getElem?_toList] at hu
    · cases hu
  have hf1 : (i + m) * 1 + D.length ≤ cur.size := by rw [hDl, hs, ← Nat.add_mul]; exact Nat.mul_le_mul_right _ (by omega)
  obtain ⟨R1, hR1⟩ : ∃ R1, R1 = over cur ((i + m) * 1) D := ⟨_, rfl⟩
  have hR1s : R1.size = cur.size := by rw [hR1]; exact over_size _ _ _ hf1
  have hcp1 : ∀ ty dc sc, (Builtin.copy_ #[59, 59] ty #[.slice (some ⟨g, (i + m), none⟩) (n + m - (i + m)) dc, .slice (some ⟨g, (i), none⟩) (n + m - i) sc]).run Try.prog w.drew = .ok (goInt ((n - i : Nat) : Int)) (w.drew.setRow g R1) := fun ty dc sc => by
    have e := run_copyS (P := Try.prog) w.drew 59 59 ty 29 1 g ((i + m) * 1) (n + m - (i + m)) dc ⟨g, i * 1, none⟩ (n + m - i) sc cur 29 D Try.underlying59 hsz hB
      (by rw [hDl]; congr 1; simp only [Nat.min_def]; split <;> omega) (fun j u hu => by rw [addr_at]; exact hDc j u hu) hf1 (fun u hu => h1 u (by rw [hD] at hu; exact List.mem_of_mem_drop hu))
    rw [show Nat.min (n + m - i) (n + m - (i + m)) = n - i by simp only [Nat.min_def]; split <;> omega, ← hR1] at e
    simpa only [Nat.mul_one] using e
  have hB1 : Blk (w.drew.setRow g R1) g 29 R1 := Blk.row (w := w.drew) hB _
  have hK1 : Keep [g] w (w.drew.setRow g R1) := (Keep.refl [g] w).drew.setRow (by simp) _
  have hv1 : Blk (w.drew.setRow g R1) vb 29 el.toArray := hv.keep hK1 (by simpa using hvg)
  have hf2 : i * 1 + el.length ≤ R1.size := by rw [hel, hR1s, hs, ← Nat.add_mul]; exact Nat.mul_le_mul_right _ (by omega)
  obtain ⟨R2, hR2⟩ : ∃ R2, R2 = over R1 (i * 1) el := ⟨_, rfl⟩
  have hR2s : R2.size = cur.size := by rw [hR2, over_size _ _ _ hf2]; exact hR1s
  obtain ⟨W1, hW1⟩ : ∃ W1, W1 = w.drew.setRow g R1 := ⟨_, rfl⟩
  rw [← hW1] at hB1 hK1 hv1 hcp1
  have hcp2 : ∀ ty dc, (Builtin.copy_ #[59, 59] ty #[.slice (some ⟨g, (i), none⟩) (n + m - i) dc, .slice (some ⟨vb, 0, none⟩) m m]).run Try.prog W1 = .ok (goInt m) (W1.setRow g R2) := fun ty dc => by
    have e := run_copyS (P := Try.prog) W1 59 59 ty 29 1 g (i * 1) (n + m - i) dc ⟨vb, 0, none⟩ m m R1 29 el Try.underlying59 hsz hB1
      (by rw [hel]; congr 1; simp only [Nat.min_def]; split <;> omega) (fun j u hu => by rw [addr_at, Nat.zero_add, hv1.cell]; simpa using hu) hf2 h1e
    rw [show Nat.min m (n + m - i) = m by simp only [Nat.min_def]; split <;> omega, ← hR2] at e
    simpa only [Nat.mul_one] using e
  have hw1 : IntKind.i64.wrap ((i : Int) + (m : Int)) = (i : Int) + (m : Int) := IntWalk.i64_in _ (by omega)
  have hb1 : (0 : Int) ≤ (i : Int) + (m : Int) := by omega
  have hin : i ≤ n := by omega
  have htn : ((i : Int) + (m : Int)).toNat = i + m := by omega
  have hb2 : ¬ (cap = i + m) := by omega
  have hb3 : (i : Int) ≤ (n : Int) + (m : Int) := by omega
  have hb4 : ¬ (cap = i) := by omega
  have HT := Lib.hid ht
  have HD := Lib.hid hD
  have HL := Lib.hid hlen
  have HR1 := Lib.hid hR1
  have HR2 := Lib.hid hR2
  have HS := Lib.hid hs
  have HE := Lib.hid hel
  have HDL := Lib.hid hDl
  clear hW1 hR1 hR2 hD ht hlen hsz hsz' hDc hs hB hv hv1 h hne hel hDl
  have mixed : Try.prog.follows .mixedOrders = true := by kernel_rfl
  go_enter Try.func89, Try.ntmps89
  go_wp2_with (simp only [hov])
  go_region_law_o (refine step_copyR rfl _ _ 59 59 rfl _ _ (by simp [Act.eval, Act.put]) (by simp [Act.eval, Act.put]) (hcp1 _ _ _) ?_)
  go_wp2_with (refine wpList_copyR _ rfl _ _ 59 59 rfl _ _ rfl rfl (hcp2 _ _) ?_)
  go_ret
  refine ⟨.slice (some ⟨g, 0, none⟩) (n + m) cap, rfl, ⟨?_, .inr ⟨g, cap, R2, rfl, hg, hB1.row R2, hroom, hcm, by rw [hR2s, HS.out], ?_⟩⟩, .inl rfl, hK1.setRow (by simp) _⟩
  · rw [List.length_append, List.length_append, List.length_take, List.length_drop, HL.out, HE.out]; omega
  · have e1 : R2.toList.take (i * 1 + el.length) = R1.toList.take (i * 1) ++ el := by rw [HR2.out]; exact over_take _ _ _ _ rfl (by rw [hR1s, HS.out]; omega)
    have e2 : R2.toList.take ((n + m) * 1) = R2.toList.take (i * 1 + el.length) ++ (R2.toList.drop (i * 1 + el.length)).take ((n - i) * 1) := by
      rw [← List.take_add, HE.out]; congr 1; omega
    have e3 : R2.toList.drop (i * 1 + el.length) = R1.toList.drop (i * 1 + el.length) := by rw [HR2.out]; exact over_drop _ _ _ (by omega)
    have e4 : (R1.toList.drop (i * 1 + el.length)).take ((n - i) * 1) = D := by
      rw [HR1.out, HE.out, ← Nat.add_mul]; exact over_mid _ _ _ _ HDL.out.symm (by rw [HDL.out] at hf1; omega)
    have e5 : R1.toList.take (i * 1) = cs.take (i * 1) := by
      rw [HR1.out, over_take_le _ _ _ _ (by omega) (by omega), ← HT.out, List.take_take, show min (i * 1) (n * 1) = i * 1 by omega]
    rw [e2, e3, e4, e1, e5, HD.out, List.append_assoc]
set_option maxRecDepth 100000 in
set_option maxHeartbeats 4000000 in
theorem ins_kids_grow (base i n m vb : Nat) (v : Value) (cs el : List Value) (w : World) (h : w.ownsRow base 29 1 v n cs) (hi : i < n) (hm : 0 < m) (hn : n + m ≤ 1000) (h1 : ∀ u ∈ cs, u.oneCell' = true) (h1e : ∀ u ∈ el, u.oneCell' = true)
    (hv : Blk w vb 29 el.toArray) (hel : el.length = m * 1) (hbase : base ≤ w.heap.size) (g cap : Nat) (hvv : v = .slice (some ⟨g, 0, none⟩) n cap) (hroom : cap < n + m) :
    Calls Try.prog 89 #[v, .int .i64 i, .slice (some ⟨vb, 0, none⟩) m m] w (InsPost39 base i n m v cs el w) := by
  obtain ⟨i0, hI, hz0, hz1, hz2⟩ := info_parts info39
  have hlen := h.1
  obtain ⟨g', cap', cur, hv', hg, hB, hc, hcm, hs, ht⟩ := own_blk h (by omega)
  subst hvv
  simp only [Value.slice.injEq, Option.some.injEq, Addr.mk.injEq, and_true, true_and] at hv'
  obtain ⟨rfl, rfl⟩ := hv'
  have hsz : (Try.prog.info? 29).map (·.size) = some 1 := by rw [hI]; simp [hz1]
  have hq1 : ¬ ((m : Int) = 0) := by omega
  have hq2 : ¬ ((i : Int) = (n : Int)) := by omega
  have hq3 : (cap : Int) < (n : Int) + (m : Int) := by omega
  have hkk : (n : Int) + (m : Int) - (i : Int) = ((n + m - i : Nat) : Int) := by omega
  have hik : i + (n + m - i) = n + m := by omega
  have hcc : ∀ j u, cs[j]? = some u → w.cell? ⟨g, j, none⟩ = some u := fun j u hu => by
    rw [← ht, List.getElem?_take] at hu
    split at hu
    · rw [hB.cell]; rwa [Array.getElem?_toList] at hu
    · cases hu
  have hold : (Builtin.firstCells i0.size i (.slice (some ⟨g, 0, none⟩) i cap)).run Try.prog w.drew = .ok (cs.take (i * 1)).toArray w.drew := by
    rw [hz1]
    refine run_firstCells_some w.drew 1 i ⟨g, 0, none⟩ i cap (cs.take (i * 1)) (by rw [List.length_take, hlen]; omega) (fun j u hj => ?_)
    rw [addr_at, Nat.zero_add]
    rw [List.getElem?_take] at hj
    split at hj
    · exact hcc j u hj
    · cases hj
  have hrz : ∀ ty, (Builtin.append_ #[59, 3] ty #[.slice (some ⟨g, 0, none⟩) i cap, .int .i64 ((n : Int) + (m : Int) - (i : Int))]).run Try.prog w =
      .ok (.slice (some ⟨w.heap.size, 0, none⟩) (n + m) (grownCap w (n + m) cap 29)) (w.drew.alloc (.cells ((cs.take (i * 1)).toArray ++ Builtin.zeroCells (Value.cells (.pointer none)) (n + m - i) ++ Builtin.zeroCells (Value.cells (.pointer none)) (grownCap w (n + m) cap 29 - (n + m))) 29)) := fun ty => by
    have h := Lib.run_append_grow_zeros (P := Try.prog) w 59 3 ty 29 i0 _ .i64 .i64 Try.underlying59 Try.underlying3 hI hz0 (some ⟨g, 0, none⟩) i cap (cs.take (i * 1)) hold (n + m - i) (by omega) (by omega) (by omega) (by omega) (by rw [hz2]; omega) (by rw [hz2, hik]; exact growslice_fits hroom (by omega))
    rw [hik] at h
    rw [hkk]
    exact h
  have hcg := grownCap_ge w (n + m) cap 29
  have hcgm := grownCap_le_maxLen w (n + m) cap 29 (by unfold maxLen; omega)
  generalize grownCap w (n + m) cap 29 = G at *
  obtain ⟨ROW, hROW⟩ : ∃ ROW : Array Value, ROW = (cs.take (i * 1)).toArray ++ Builtin.zeroCells (Value.cells (.pointer none)) (n + m - i) ++ Builtin.zeroCells (Value.cells (.pointer none)) (G - (n + m)) := ⟨_, rfl⟩
  rw [← hROW] at hrz
  have hRs : ROW.size = G * 1 := by
    rw [hROW, Array.size_append, Array.size_append, List.size_toArray, List.length_take, hlen]
    simp only [Builtin.zeroCells, Array.size_map, Array.size_range, zsz_kids]
    omega
  have hRt : ROW.toList.take (i * 1) = cs.take (i * 1) := by
    have e : ROW.toList = cs.take (i * 1) ++ ((Builtin.zeroCells (Value.cells (.pointer none)) (n + m - i)).toList ++ (Builtin.zeroCells (Value.cells (.pointer none)) (G - (n + m))).toList) := by rw [hROW]; simp
    rw [e, List.take_append_of_le_length (by rw [List.length_take, hlen]; omega), List.take_take, Nat.min_self]
  obtain ⟨N, hN⟩ : ∃ N, N = w.heap.size := ⟨_, rfl⟩
  rw [← hN] at hrz hbase
  obtain ⟨W1, hW1⟩ : ∃ W1, W1 = w.drew.alloc (.cells ROW 29) := ⟨_, rfl⟩
  have hBN : Blk W1 N 29 ROW := by rw [hW1, hN]; exact Blk.new w.drew 29 ROW
  have hK0 : Keep [N] w W1 := by rw [hW1]; exact (Keep.refl [N] w).drew.alloc _
  have hbl := hB.lt
  have hvl := hv.lt
  have hB1 : Blk W1 g 29 cur := hB.keep hK0 (by simp; omega)
  have hv1 : Blk W1 vb 29 el.toArray := hv.keep hK0 (by simp; omega)
  obtain ⟨D, hD⟩ : ∃ D, D = cs.drop (i * 1) := ⟨_, rfl⟩
  have hDl : D.length = (n - i) * 1 := by rw [hD, List.length_drop, hlen, Nat.sub_mul]
  obtain ⟨R1, hR1⟩ : ∃ R1, R1 = over ROW (i * 1) el := ⟨_, rfl⟩
  have hf1 : i * 1 + el.length ≤ ROW.size := by rw [hel, hRs, ← Nat.add_mul]; exact Nat.mul_le_mul_right _ (by omega)
  have hR1s : R1.size = ROW.size := by rw [hR1]; exact over_size _ _ _ hf1
  have hf2 : (i + m) * 1 + D.length ≤ R1.size := by rw [hDl, hR1s, hRs, ← Nat.add_mul]; exact Nat.mul_le_mul_right _ (by omega)
  obtain ⟨R2, hR2⟩ : ∃ R2, R2 = over R1 ((i + m) * 1) D := ⟨_, rfl⟩
  have hR2s : R2.size = ROW.size := by rw [hR2, over_size _ _ _ hf2]; exact hR1s
  have hcpA : ∀ (W : World), W.heap = W1.heap → ∀ ty dc, (Builtin.copy_ #[59, 59] ty #[.slice (some ⟨N, (i), none⟩) (n + m - i) dc, .slice (some ⟨vb, 0, none⟩) m m]).run Try.prog W = .ok (goInt m) (W.setRow N R1) := fun W hW ty dc => by
    have hbn : Blk W N 29 ROW := by unfold Blk; rw [hW]; exact hBN
    have hbv : Blk W vb 29 el.toArray := by unfold Blk; rw [hW]; exact hv1
    have e := run_copyS (P := Try.prog) W 59 59 ty 29 1 N (i * 1) (n + m - i) dc ⟨vb, 0, none⟩ m m ROW 29 el Try.underlying59 hsz hbn
      (by rw [hel]; congr 1; simp only [Nat.min_def]; split <;> omega) (fun j u hu => by rw [addr_at, Nat.zero_add, hbv.cell]; simpa using hu) hf1 h1e
    rw [show Nat.min m (n + m - i) = m by simp only [Nat.min_def]; split <;> omega, ← hR1] at e
    simpa only [Nat.mul_one] using e
  have hcpB : ∀ (W : World), W.heap = (W1.setRow N R1).heap → ∀ ty dc sc, (Builtin.copy_ #[59, 59] ty #[.slice (some ⟨N, (i + m), none⟩) (n + m - (i + m)) dc, .slice (some ⟨g, (i), none⟩) (n - i) sc]).run Try.prog W = .ok (goInt ((n - i : Nat) : Int)) (W.setRow N R2) := fun W hW ty dc sc => by
    have hbn : Blk W N 29 R1 := by unfold Blk; rw [hW]; exact hBN.row R1
    have hbg : Blk W g 29 cur := by unfold Blk; rw [hW]; exact hB1.keep ((Keep.refl [N] W1).setRow (by simp) R1) (by simp; omega)
    have e := run_copyS (P := Try.prog) W 59 59 ty 29 1 N ((i + m) * 1) (n + m - (i + m)) dc ⟨g, i * 1, none⟩ (n - i) sc R1 29 D Try.underlying59 hsz hbn
      (by rw [hDl]; congr 1; simp only [Nat.min_def]; split <;> omega) (fun j u hu => by
        rw [addr_at, hbg.cell]
        rw [hD, List.getElem?_drop] at hu
        have := hcc _ u hu
        rwa [hB.cell] at this) hf2 (fun u hu => h1 u (by rw [hD] at hu; exact List.mem_of_mem_drop hu))
    rw [show Nat.min (n - i) (n + m - (i + m)) = n - i by simp only [Nat.min_def]; split <;> omega, ← hR2] at e
    simpa only [Nat.mul_one] using e
  have hG63 : G ≤ 9223372036854775807 := by unfold maxLen at hcgm; omega
  have hGi : ¬ (G = i) := by omega
  have hGim : ¬ (G = i + m) := by omega
  have hci : ¬ (cap = i) := by omega
  have hw1 : IntKind.i64.wrap ((i : Int) + (m : Int)) = (i : Int) + (m : Int) := IntWalk.i64_in _ (by omega)
  have hb1 : (0 : Int) ≤ (i : Int) + (m : Int) := by omega
  have hin : i ≤ n := by omega
  have htn : ((i : Int) + (m : Int)).toNat = i + m := by omega
  have hb3 : (i : Int) ≤ (n : Int) := by omega
  have HBe : Below w.heap.size w W1 := by rw [hW1]; exact ((Below.refl _ w).drew).alloc (Nat.le_refl _) _
  have HN := Lib.hid hN
  have HD := Lib.hid hD
  have HL := Lib.hid hlen
  have HR1 := Lib.hid hR1
  have HR2 := Lib.hid hR2
  have HRS := Lib.hid hRs
  have HRT := Lib.hid hRt
  have HE := Lib.hid hel
  have HDL := Lib.hid hDl
  have hE1 : ((w.alloc (.cells ROW 29)).drew).heap = W1.heap := by rw [hW1]; rfl
  have hE2 : (((w.alloc (.cells ROW 29)).drew.setRow N R1).drew).heap = (W1.setRow N R1).heap := by rw [hW1]; rfl
  have hE3 : (((w.alloc (.cells ROW 29)).drew.setRow N R1).drew.setRow N R2).heap = ((W1.setRow N R1).setRow N R2).heap := by rw [hW1]; rfl
  have HW1 := Lib.hid hW1
  rw [hW1] at hcpA hcpB hE1 hE2
  have HE3 := Lib.hid hE3
  clear hkk hik hold hROW hRt hRs hN hD hlen hR1 hR2 hel hDl hW1 hv1 hB1 hB hv ht hs h hcc hsz hE3
  have mixed : Try.prog.follows .mixedOrders = true := by kernel_rfl
  go_enter Try.func89, Try.ntmps89
  go_wp2_with (first
    | (at_builtin; refine Lib.wpList_append_run _ rfl _ _ _ _ rfl _ _ rfl rfl _ _ (hrz _) ?_)
    | (refine wpList_copyR _ rfl _ _ 59 59 rfl _ _ rfl rfl (hcpA _ hE1 _ _) ?_))
  go_region_law_o (refine step_copyR rfl _ _ 59 59 rfl (.slice (some ⟨N, (i + m), none⟩) (n + m - (i + m)) (G - (i + m))) (.slice (some ⟨g, (i), none⟩) (n - i) (cap - i)) (by simp [Act.eval, Act.put]) (by simp [Act.eval, Act.put]) (hcpB _ hE2 3 (G - (i + m)) (cap - i)) ?_)
  go_wp2_with fail
  go_ret
  refine ⟨.slice (some ⟨N, 0, none⟩) (n + m) G, rfl, ⟨?_, .inr ⟨N, G, R2, rfl, hbase, ?_, hcg, hcgm, by rw [hR2s, HRS.out], ?_⟩⟩, .inr (by rw [← HN.out]; rfl), Keep.of_below (below_setRow ((below_setRow (((Below.refl w.heap.size w).alloc (Nat.le_refl _) _).drew) (by rw [HN.out]; exact Nat.le_refl _) _).drew) (by rw [HN.out]; exact Nat.le_refl _) _)⟩
  · rw [List.length_append, List.length_append, List.length_take, List.length_drop, HL.out, HE.out]; omega
  · have hb : Blk ((W1.setRow N R1).setRow N R2) N 29 R2 := (hBN.row R1).row R2
    unfold Blk at hb
    rw [← HE3.out] at hb
    exact hb
  · have e1 : R2.toList.take ((n + m) * 1) = R1.toList.take ((i + m) * 1) ++ D := by
      rw [HR2.out]; exact over_take _ _ _ _ (by rw [HDL.out, ← Nat.add_mul]; congr 1; omega) (by rw [hR1s, HRS.out]; exact Nat.mul_le_mul_right _ (by omega))
    have e2 : R1.toList.take ((i + m) * 1) = ROW.toList.take (i * 1) ++ el := by
      rw [HR1.out]; exact over_take _ _ _ _ (by rw [HE.out, ← Nat.add_mul]) (by rw [HRS.out]; exact Nat.mul_le_mul_right _ (by omega))
    rw [e1, e2, HRT.out, HD.out, List.append_assoc]
set_option maxRecDepth 100000 in
set_option maxHeartbeats 4000000 in
theorem ins_kids_end (base n m vb : Nat) (v : Value) (cs el : List Value) (w : World) (h : w.ownsRow base 29 1 v n cs) (hm : 0 < m) (hn : n + m ≤ 1000) (h1e : ∀ u ∈ el, u.oneCell' = true)
    (hv : Blk w vb 29 el.toArray) (hel : el.length = m * 1) (hbase : base ≤ w.heap.size) :
    Calls Try.prog 89 #[v, .int .i64 n, .slice (some ⟨vb, 0, none⟩) m m] w (InsPost39 base n n m v cs el w) := by
  obtain ⟨i0, hI, hz0, hz1, hz2⟩ := info_parts info39
  have hq1 : ¬ ((m : Int) = 0) := by omega
  have hlen := Lib.hid h.1
  have hge := own_ge h
  obtain ⟨A, cap, hvv, hcap⟩ : ∃ A cap, v = .slice A n cap ∧ n ≤ cap := by
    rcases h.2 with ⟨h1, h2⟩ | ⟨g, cap, cur, h1, _, _, h3, _⟩
    · exact ⟨none, 0, by rw [h1, h2], by omega⟩
    · exact ⟨_, cap, h1, h3⟩
  have hcv : ∀ j u, el[j]? = some u → w.cell? ((⟨vb, 0, none⟩ : Addr).add j) = some u := fun j u hu => by rw [addr_at, Nat.zero_add, hv.cell]; simpa using hu
  subst hvv
  clear hv
  by_cases hcn : cap = n
  · subst hcn
    go_enter Try.func89, Try.ntmps89
    go_wp2_with (at_builtin; refine wpList_append_own_at _ rfl _ _ 59 rfl base 29 i0 _ 1 8 Try.underlying59 hI hz0 hz1 hz2 zsz_kids (by decide) (.slice A cap cap) cap cs rfl h ⟨vb, 0, none⟩ m m el rfl hel hcv h1e (by unfold maxLen; omega) (by omega) hbase ?_; intro v' wa hown' hgrow hnil hat)
    go_ret
    refine ⟨v', rfl, ?_, hat, ⟨⟨hgrow.os, hgrow.tape, hgrow.output, hgrow.size, fun i hi => by omega⟩, fun i hi hx => hgrow.block i hi (fun e => hx (by rw [← e]; simp))⟩⟩
    rw [List.take_of_length_le (by rw [hlen.out]; exact Nat.le_refl _), List.drop_of_length_le (by rw [hlen.out]; exact Nat.le_refl _), List.append_nil]
    exact hown'
  · go_enter Try.func89, Try.ntmps89
    go_wp2_with (at_builtin; refine wpList_append_own_at _ rfl _ _ 59 rfl base 29 i0 _ 1 8 Try.underlying59 hI hz0 hz1 hz2 zsz_kids (by decide) (.slice A n cap) n cs rfl h ⟨vb, 0, none⟩ m m el rfl hel hcv h1e (by unfold maxLen; omega) (by omega) hbase ?_; intro v' wa hown' hgrow hnil hat)
    go_ret
    refine ⟨v', rfl, ?_, hat, ⟨⟨hgrow.os, hgrow.tape, hgrow.output, hgrow.size, fun i hi => by omega⟩, fun i hi hx => hgrow.block i hi (fun e => hx (by rw [← e]; simp))⟩⟩
    rw [List.take_of_length_le (by rw [hlen.out]; exact Nat.le_refl _), List.drop_of_length_le (by rw [hlen.out]; exact Nat.le_refl _), List.append_nil]
    exact hown'
theorem ins_kids (base i n m vb : Nat) (v : Value) (cs el : List Value) (w : World) (h : w.ownsRow base 29 1 v n cs) (hi : i ≤ n) (hm : 0 < m) (hn : n + m ≤ 1000) (h1 : ∀ u ∈ cs, u.oneCell' = true) (h1e : ∀ u ∈ el, u.oneCell' = true)
    (hv : Blk w vb 29 el.toArray) (hel : el.length = m * 1) (hbase : base ≤ w.heap.size) (hne : v.ownBlock ≠ some vb) :
    Calls Try.prog 89 #[v, .int .i64 i, .slice (some ⟨vb, 0, none⟩) m m] w (InsPost39 base i n m v cs el w) := by
  rcases Nat.lt_or_eq_of_le hi with hlt | rfl
  · obtain ⟨g, cap, cur, hvv, hg, hB, hc, hcm, hs, ht⟩ := own_blk h (by omega)
    rcases Nat.lt_or_ge cap (n + m) with hr | hr
    · exact ins_kids_grow base i n m vb v cs el w h hlt hm hn h1 h1e hv hel hbase g cap hvv hr
    · exact ins_kids_shift base i n m vb v cs el w h hlt hm hn h1 h1e hv hel hne g cap hvv hr
  · exact ins_kids_end base i m vb v cs el w h hm hn h1e hv hel hbase
end Go.Proofs.Ytfmbikmpobieoaa
/- placed, and slices.Clone, of pairs and of children. -/
namespace Go.Proofs.Ytfmbikmpobieoaa
open Go.RowKit Go.Lib
set_option linter.unusedVariables false
set_option maxRecDepth 100000
set_option maxRecDepth 100000
set_option linter.unusedSimpArgs false
/-- an element more, at place i -/
def insAt {α : Type} (xs : List α) (i : Nat) (x : α) : List α := xs.take i ++ x :: xs.drop i
/-- the element at place i, or one more there -/
def putAt {α : Type} (xs : List α) (i : Nat) (rep : Bool) (x : α) : List α := if rep then xs.set i x else insAt xs i x
theorem flat_drop (xs : List Pr) (i : Nat) : flat (xs.drop i) = (flat xs).drop (i * 2) := by
  induction xs generalizing i with
  | nil => simp [flat]
  | cons x xs ih =>
    cases i with
    | zero => simp [flat]
    | succ i =>
      have := ih i
      rw [show (i + 1) * 2 = i * 2 + 2 by omega]
      simpa [flat] using this
theorem flat_ins (xs : List Pr) (i : Nat) (p : Pr) : (flat xs).take (i * 2) ++ ([.string p.1, .string p.2] ++ (flat xs).drop (i * 2)) = flat (insAt xs i p) := by
  unfold insAt
  rw [flat_append, flat_take, ← flat_drop]
  simp [flat]
theorem flat_del (xs : List Pr) (i : Nat) : (flat xs).take (i * 2) ++ (flat xs).drop ((i + 1) * 2) = flat (xs.eraseIdx i) := by
  rw [← flat_take, ← flat_drop, ← flat_append, List.eraseIdx_eq_take_drop_succ]
theorem insAt_len {α : Type} (xs : List α) (i : Nat) (x : α) (h : i ≤ xs.length) : (insAt xs i x).length = xs.length + 1 := by
  unfold insAt; simp; omega
/-- children as the cells of a row -/
def kcs (ks : List Nat) : List Value := ks.map at0
theorem kcs_one (ks : List Nat) : ∀ u ∈ kcs ks, u.oneCell' = true := by
  intro u hu
  obtain ⟨k, _, rfl⟩ := List.mem_map.1 hu
  rfl
theorem kcs_ins (ks : List Nat) (i k : Nat) : (kcs ks).take (i * 1) ++ ([at0 k] ++ (kcs ks).drop (i * 1)) = kcs (insAt ks i k) := by
  unfold insAt kcs; simp
theorem kcs_del (ks : List Nat) (i : Nat) : (kcs ks).take (i * 1) ++ (kcs ks).drop ((i + 1) * 1) = kcs (ks.eraseIdx i) := by
  rw [List.eraseIdx_eq_take_drop_succ]
  unfold kcs; simp
/-- a row of children that the call owns -/
def OwnK (base : Nat) (w : World) (v : Value) (ks : List Nat) : Prop := w.ownsRow base 29 1 v ks.length (kcs ks)
theorem OwnK.base {b b' : Nat} {w : World} {v : Value} {xs : List Nat} (h : OwnK b w v xs) (hb : b' ≤ b) : OwnK b' w v xs := by
  refine ⟨h.1, ?_⟩
  rcases h.2 with h1 | ⟨g, cap, cur, h1, hg, h2⟩
  · exact .inl h1
  · exact .inr ⟨g, cap, cur, h1, Nat.le_trans hb hg, h2⟩
theorem Own.base {b b' : Nat} {w : World} {v : Value} {xs : List Pr} (h : Own b w v xs) (hb : b' ≤ b) : Own b' w v xs := by
  refine ⟨h.1, ?_⟩
  rcases h.2 with h1 | ⟨g, cap, cur, h1, hg, h2⟩
  · exact .inl h1
  · exact .inr ⟨g, cap, cur, h1, Nat.le_trans hb hg, h2⟩
theorem Keep.sub {X Y : List Nat} {a b : World} (h : Keep X a b) (hs : ∀ x ∈ X, x ∈ Y) : Keep Y a b := h.mono fun x hx => .inl (hs x hx)
/-- a place that is the old one, or a new one -/
def SameOrNew (v v' : Value) (n : Nat) : Prop := ∀ g, v'.ownBlock = some g → v.ownBlock = some g ∨ n ≤ g
/-- what placed leaves, of pairs -/
def PlaceP (base : Nat) (v : Value) (ys : List Pr) (w : World) (e : Ending) (w' : World) : Prop :=
  ∃ v', e = .returned v' ∧ Own base w' v' ys ∧ SameOrNew v v' w.heap.size ∧ Keep v.ownBlock.toList w w'
def PlaceK (base : Nat) (v : Value) (ys : List Nat) (w : World) (e : Ending) (w' : World) : Prop :=
  ∃ v', e = .returned v' ∧ OwnK base w' v' ys ∧ SameOrNew v v' w.heap.size ∧ Keep v.ownBlock.toList w w'
set_option maxRecDepth 100000 in
set_option maxHeartbeats 2000000 in
theorem place_pairs_yes (base i : Nat) (v : Value) (xs : List Pr) (p : Pr) (w : World) (h : Own base w v xs) (hi : i < xs.length) (hn : xs.length ≤ 900) :
    Calls Try.prog 74 #[v, .int .i64 i, .bool true, p.v] w (PlaceP base v (xs.set i p) w) := by
  obtain ⟨g, cap, cur, rfl, hg, hB, hc, hcm, hs, ht⟩ := own_blk h (by omega)
  have hh : (w.alloc (.cells #[.string p.1, .string p.2] 32)).ownsRow base 32 2 (.slice (some ⟨g, 0, none⟩) xs.length cap) xs.length (flat xs) := World.ownsRow.alloc h _
  have hk := (Keep.refl [g] w).alloc (.cells #[.string p.1, .string p.2] 32)
  have c0 := hh.cellAt (i * 2) (by omega)
  have c1 := hh.cellAt (i * 2 + 1) (by omega)
  have f0 := hh.frozenAt (i * 2)
  have f1 := hh.frozenAt (i * 2 + 1)
  rw [(flat_get xs i _ (pat_get hi)).1] at c0
  rw [(flat_get xs i _ (pat_get hi)).2] at c1
  have s1 := (hh.stored (i * 2) (.string p.1)).1
  have s2 := (s1.stored (i * 2 + 1) (.string p.2)).1
  rw [flat_set xs i p hi] at s2
  have B2 : (i : Int) < (xs.length : Int) := by omega
  unfold Pr.v
  clear h hB hs ht
  go_enter Try.func74, Try.ntmps74
  go_wp2_with fail
  go_ret
  refine ⟨.slice (some ⟨g, 0, none⟩) xs.length cap, rfl, ?_, fun g hg => .inl hg, ((hk.setCell (by simp) _).setCell (by simp) _)⟩
  unfold Own
  rw [List.length_set]
  exact s2
set_option maxRecDepth 100000 in
set_option maxHeartbeats 2000000 in
theorem place_pairs_no (base i : Nat) (v : Value) (xs : List Pr) (p : Pr) (w : World) (h : Own base w v xs) (hi : i ≤ xs.length) (hn : xs.length ≤ 900) (hb : base ≤ w.heap.size) :
    Calls Try.prog 74 #[v, .int .i64 i, .bool false, p.v] w (PlaceP base v (insAt xs i p) w) := by
  have hlt := fun k hk => (World.ownsRow.lt h k hk).2
  have hh : ((w.alloc (.cells #[.string p.1, .string p.2] 32)).alloc (.cells #[.string p.1, .string p.2] 32)).ownsRow base 32 2 v xs.length (flat xs) := World.ownsRow.alloc (World.ownsRow.alloc h _) _
  have hk := (((Keep.refl v.ownBlock.toList w).alloc (.cells #[.string p.1, .string p.2] 32)).alloc (.cells #[.string p.1, .string p.2] 32))
  have hb2 := Blk.new (w.alloc (.cells #[.string p.1, .string p.2] 32)) 32 #[.string p.1, .string p.2]
  have hsz : (w.alloc (.cells #[.string p.1, .string p.2] 32)).heap.size = w.heap.size + 1 := by simp
  rw [hsz] at hb2
  unfold Pr.v
  clear hsz
  go_enter Try.func74, Try.ntmps74
  go_wp2_with fail
  have hsz : ((w.alloc (.cells #[.string p.1, .string p.2] 32)).alloc (.cells #[.string p.1, .string p.2] 32)).heap.size = w.heap.size + 2 := by simp
  generalize (w.alloc (.cells #[.string p.1, .string p.2] 32)).alloc (.cells #[.string p.1, .string p.2] 32) = W at *
  refine (ins_pairs base i xs.length 1 (w.heap.size + 1) v (flat xs) [.string p.1, .string p.2] W hh hi (by decide) (by omega) (flat_one xs) (by simp [Value.oneCell']) hb2 rfl (by omega) (fun e => by have := hlt _ e; omega)).mono ?_
  rintro e w' ⟨v', rfl, ho, hat, hK⟩
  rw [flat_ins] at ho
  clear hh hb2
  go_wp2_with fail
  go_ret
  refine ⟨v', rfl, ?_, fun g hg => ?_, hk.trans hK⟩
  · unfold Own; rw [insAt_len xs i p hi]; exact ho
  · rcases hat with e | e
    · exact .inl (e ▸ hg)
    · rw [e] at hg; exact .inr (by have := Option.some.inj hg; omega)
theorem place_pairs (base i : Nat) (rep : Bool) (v : Value) (xs : List Pr) (p : Pr) (w : World) (h : Own base w v xs) (hi : i ≤ xs.length) (hr : rep = true → i < xs.length) (hn : xs.length ≤ 900) (hb : base ≤ w.heap.size) :
    Calls Try.prog 74 #[v, .int .i64 i, .bool rep, p.v] w (PlaceP base v (putAt xs i rep p) w) := by
  cases rep with
  | true => exact place_pairs_yes base i v xs p w h (hr rfl) hn
  | false => exact place_pairs_no base i v xs p w h hi hn hb
set_option maxRecDepth 100000 in
set_option maxHeartbeats 2000000 in
theorem place_kids_yes (base i k : Nat) (v : Value) (xs : List Nat) (w : World) (h : OwnK base w v xs) (hi : i < xs.length) (hn : xs.length ≤ 900) :
    Calls Try.prog 84 #[v, .int .i64 i, .bool true, at0 k] w (PlaceK base v (xs.set i k) w) := by
  obtain ⟨g, cap, cur, rfl, hg, hB, hc, hcm, hs, ht⟩ := own_blk h (by omega)
  have hh : w.ownsRow base 29 1 (.slice (some ⟨g, 0, none⟩) xs.length cap) xs.length (kcs xs) := h
  have c0 := hh.cellAt i (by omega)
  have f0 := hh.frozenAt i
  have hget : (kcs xs)[i]? = some (at0 xs[i]) := by simp [kcs, hi]
  rw [hget] at c0
  have s1 := (hh.stored i (at0 k)).1
  have e1 : (kcs xs).set i (at0 k) = kcs (xs.set i k) := by simp [kcs, List.map_set]
  rw [e1] at s1
  have B2 : (i : Int) < (xs.length : Int) := by omega
  clear h hB hs ht hget e1
  unfold at0 at *
  go_enter Try.func84, Try.ntmps84
  go_wp2_with fail
  go_ret
  refine ⟨.slice (some ⟨g, 0, none⟩) xs.length cap, rfl, ?_, fun g hg => .inl hg, (Keep.refl _ w).setCell (by simp [Value.ownBlock]) _⟩
  unfold OwnK
  rw [List.length_set]
  exact s1
set_option maxRecDepth 100000 in
set_option maxHeartbeats 2000000 in
theorem place_kids_no (base i k : Nat) (v : Value) (xs : List Nat) (w : World) (h : OwnK base w v xs) (hi : i ≤ xs.length) (hn : xs.length ≤ 900) (hb : base ≤ w.heap.size) :
    Calls Try.prog 84 #[v, .int .i64 i, .bool false, at0 k] w (PlaceK base v (insAt xs i k) w) := by
  have hlt := fun k hk => (World.ownsRow.lt h k hk).2
  have hh : (w.alloc (.cells #[at0 k] 29)).ownsRow base 29 1 v xs.length (kcs xs) := World.ownsRow.alloc h _
  have hk := (Keep.refl v.ownBlock.toList w).alloc (.cells #[at0 k] 29)
  have hb2 := Blk.new w 29 #[at0 k]
  unfold at0 at *
  go_enter Try.func84, Try.ntmps84
  go_wp2_with fail
  have hsz : (w.alloc (.cells #[.pointer (some ⟨k, 0, none⟩)] 29)).heap.size = w.heap.size + 1 := by simp
  generalize w.alloc (.cells #[.pointer (some ⟨k, 0, none⟩)] 29) = W at *
  refine (ins_kids base i xs.length 1 w.heap.size v (kcs xs) [at0 k] W hh hi (by decide) (by omega) (kcs_one xs) (by simp [Value.oneCell', at0]) hb2 rfl (by omega) (fun e => by have := hlt _ e; omega)).mono ?_
  rintro e w' ⟨v', rfl, ho, hat, hK⟩
  rw [kcs_ins] at ho
  clear hh hb2
  go_wp2_with fail
  go_ret
  refine ⟨v', rfl, ?_, fun g hg => ?_, hk.trans hK⟩
  · unfold OwnK; rw [insAt_len xs i k hi]; exact ho
  · rcases hat with e | e
    · exact .inl (e ▸ hg)
    · rw [e] at hg; exact .inr (by have := Option.some.inj hg; omega)
theorem place_kids (base i k : Nat) (rep : Bool) (v : Value) (xs : List Nat) (w : World) (h : OwnK base w v xs) (hi : i ≤ xs.length) (hr : rep = true → i < xs.length) (hn : xs.length ≤ 900) (hb : base ≤ w.heap.size) :
    Calls Try.prog 84 #[v, .int .i64 i, .bool rep, at0 k] w (PlaceK base v (putAt xs i rep k) w) := by
  cases rep with
  | true => exact place_kids_yes base i k v xs w h (hr rfl) hn
  | false => exact place_kids_no base i k v xs w h hi hn hb

/-- a copy of a row: nil of nil, else a new one -/
theorem own_nil_or {w : World} {base : Nat} {e : TypeId} {size n : Nat} {v : Value} {xs : List Value} (h : w.ownsRow base e size v n xs) : (v = .slice none 0 0 ∧ n = 0) ∨ ∃ g cap, v = .slice (some ⟨g, 0, none⟩) n cap := by
  rcases h.2 with h1 | ⟨g, cap, cur, h1, _⟩
  · exact .inl h1
  · exact .inr ⟨g, cap, h1⟩
def CloneP (xs : List Pr) (w : World) (e : Ending) (w' : World) : Prop := ∃ v, e = .returned v ∧ Own w.heap.size w' v xs ∧ Below w.heap.size w w'
def CloneK (xs : List Nat) (w : World) (e : Ending) (w' : World) : Prop := ∃ v, e = .returned v ∧ OwnK w.heap.size w' v xs ∧ Below w.heap.size w w'
theorem clone_nil (w : World) : Calls Try.prog 24 #[.slice none 0 0] w fun e w' => e = .returned (.slice none 0 0) ∧ w = w' := by
  have hnl := fun w => run_eql_slice_nil (P := Try.prog) w 25 32 none 0 0 0 0 Try.underlying25
  go_enter Try.func24, Try.ntmps24
  go_wp2_with fail
  go_ret
  exact ⟨rfl, rfl⟩
theorem clone_pairs (base : Nat) (v : Value) (xs : List Pr) (w : World) (h : Own base w v xs) (hn : xs.length ≤ 900) : Calls Try.prog 24 #[v] w (CloneP xs w) := by
  obtain ⟨A, c, rfl, hR, hA⟩ := h.rd
  rcases own_nil_or h with ⟨h1, h0⟩ | ⟨g, cap, h1⟩
  · rw [h1]
    obtain rfl := List.length_eq_zero_iff.1 h0
    refine (clone_nil w).mono ?_
    rintro e w' ⟨rfl, rfl⟩
    exact ⟨_, rfl, World.ownsRow_nil _ _ _ _, Below.refl _ _⟩
  · simp only [Value.slice.injEq, true_and] at h1
    obtain ⟨rfl, rfl⟩ := h1
    refine (clone_any g 0 c xs w hR (by omega)).mono ?_
    rintro e w' ⟨g', c', rfl, hO, hB⟩
    exact ⟨_, rfl, hO, hB⟩
theorem clone_knil (w : World) : Calls Try.prog 49 #[.slice none 0 0] w fun e w' => e = .returned (.slice none 0 0) ∧ w = w' := by
  have hnl := fun w => run_eql_slice_nil (P := Try.prog) w 59 29 none 0 0 0 0 Try.underlying59
  go_enter Try.func49, Try.ntmps49
  go_wp2_with fail
  go_ret
  exact ⟨rfl, rfl⟩
theorem ownk_lit (w : World) : w.alloc (.cells #[] 29) |>.ownsRow w.heap.size 29 1 (.slice (some ⟨w.heap.size, 0, none⟩) 0 0) 0 [] :=
  World.ownsRow_lit w #[] 0 (Nat.le_refl _) (Nat.zero_le _) rfl
set_option maxHeartbeats 2000000 in
theorem clone_kids (base : Nat) (v : Value) (xs : List Nat) (w : World) (h : OwnK base w v xs) (hn : xs.length ≤ 900) : Calls Try.prog 49 #[v] w (CloneK xs w) := by
  rcases own_nil_or h with ⟨h1, h0⟩ | ⟨g, cap, h1⟩
  · rw [h1]
    obtain rfl := List.length_eq_zero_iff.1 h0
    refine (clone_knil w).mono ?_
    rintro e w' ⟨rfl, rfl⟩
    exact ⟨_, rfl, World.ownsRow_nil _ _ _ _, Below.refl _ _⟩
  · subst h1
    obtain ⟨i0, hi, hz0, hz1, hz2⟩ := info_parts info39
    have hh : (w.alloc (.cells #[] 29)).ownsRow base 29 1 (.slice (some ⟨g, 0, none⟩) xs.length cap) xs.length (kcs xs) := World.ownsRow.alloc h _
    have hcells : ∀ j u, (kcs xs)[j]? = some u → (w.alloc (.cells #[] 29)).cell? ((⟨g, 0, none⟩ : Addr).add j) = some u := fun j u hu => by
      have hl := (List.getElem?_eq_some_iff.1 hu).1
      have : (kcs xs).length = xs.length := by simp [kcs]
      rw [addr_at, Nat.zero_add, hh.cellAt j (by omega)]; exact hu
    have hkl : (kcs xs).length = xs.length * 1 := by simp [kcs]
    have hlit := ownk_lit w
    have hnl := fun w => run_eql_slice_nil (P := Try.prog) w 59 29 (some ⟨g, 0, none⟩) xs.length cap 0 0 Try.underlying59
    clear hh h
    go_enter Try.func49, Try.ntmps49
    go_wp2_with (at_builtin; refine wpList_append_own _ rfl _ _ 59 rfl w.heap.size 29 i0 _ 1 8 Try.underlying59 hi hz0 hz1 hz2 zsz_kids (by decide) _ _ _ rfl hlit ⟨g, 0, none⟩ xs.length cap (kcs xs) rfl hkl hcells (kcs_one xs) (by unfold maxLen; omega) (by omega) (by simp) ?_; intro v' wa hown' hgrow hnil)
    go_ret
    have hB : Below w.heap.size w wa := ((Below.refl _ w).alloc (Nat.le_refl _) _).grown hgrow (by simp) (own_ge hlit)
    refine ⟨v', rfl, ?_, hB⟩
    unfold OwnK
    simpa using hown'
end Go.Proofs.Ytfmbikmpobieoaa
/- What the chunks of a node have; the sets and lists that tell it: plain mathematics. -/
namespace Go.Proofs.Ytfmbikmpobieoaa
open Go.RowKit Go.Lib
set_option linter.unusedVariables false
set_option maxRecDepth 100000
set_option maxRecDepth 100000
set_option linter.unusedSimpArgs false
/-- what a chunk has: nothing, a pair, a child (its block) -/
inductive Sl where
  | no
  | pr (p : Pr)
  | kd (k : Nat)
abbrev Slots := Nat → Sl
def Sl.p? : Sl → Option Pr
  | .pr p => some p
  | _ => none
def Sl.k? : Sl → Option Nat
  | .kd k => some k
  | _ => none
/-- a chunk changed -/
def Slots.put (S : Slots) (i : Nat) (x : Sl) : Slots := fun j => if j = i then x else S j
/-- what the first n chunks have -/
def fm {α : Type} (f : Nat → Option α) (n : Nat) : List α := (List.range n).filterMap f
def rest {α : Type} (f : Nat → Option α) (i : Nat) : List α := (List.range' (i + 1) (31 - i)).filterMap f
theorem fm_split {α : Type} (f : Nat → Option α) (i : Nat) (h : i < 32) : fm f 32 = fm f i ++ ((f i).toList ++ rest f i) := by
  have e : List.range 32 = List.range i ++ (i :: List.range' (i + 1) (31 - i)) := by
    have h1 : List.range 32 = List.range (i + (1 + (31 - i))) := by congr 1; omega
    rw [h1, List.range_eq_range', List.range_eq_range', ← List.range'_append_1, Nat.zero_add, Nat.add_comm 1 (31 - i), List.range'_succ]
  unfold fm rest
  rw [e, List.filterMap_append, List.filterMap_cons]
  cases f i <;> simp
theorem fmap_congr {α : Type} (f g : Nat → Option α) : ∀ l : List Nat, (∀ j ∈ l, f j = g j) → l.filterMap f = l.filterMap g
  | [], _ => rfl
  | x :: r, h => by rw [List.filterMap_cons, List.filterMap_cons, h x (by simp), fmap_congr f g r (fun j hj => h j (by simp [hj]))]
theorem fm_congr {α : Type} (f g : Nat → Option α) (n : Nat) (h : ∀ j, j < n → f j = g j) : fm f n = fm g n := by
  unfold fm
  apply fmap_congr
  intro j hj
  exact h j (List.mem_range.1 hj)
theorem rest_congr {α : Type} (f g : Nat → Option α) (i : Nat) (h : ∀ j, i < j → f j = g j) : rest f i = rest g i := by
  unfold rest
  apply fmap_congr
  intro j hj
  exact h j (by have := (List.mem_range'_1.1 hj).1; omega)
theorem fm_upd {α : Type} (f g : Nat → Option α) (i : Nat) (h : i < 32) (hg : ∀ j, j ≠ i → g j = f j) : fm g 32 = fm f i ++ ((g i).toList ++ rest f i) := by
  rw [fm_split g i h, fm_congr g f i (fun j hj => hg j (by omega)), rest_congr g f i (fun j hj => hg j (by omega))]
theorem fm_put {α : Type} (f g : Nat → Option α) (i : Nat) (b : α) (h : i < 32) (hg : ∀ j, j ≠ i → g j = f j) (hb : g i = some b) : fm g 32 = putAt (fm f 32) (fm f i).length (f i).isSome b := by
  rw [fm_upd f g i h hg, hb, fm_split f i h]
  cases hf : f i with
  | none =>
    unfold putAt insAt
    simp
  | some a =>
    unfold putAt
    simp
theorem fm_erase {α : Type} (f g : Nat → Option α) (i : Nat) (h : i < 32) (hg : ∀ j, j ≠ i → g j = f j) (hb : g i = none) : fm g 32 = if (f i).isSome then (fm f 32).eraseIdx (fm f i).length else fm f 32 := by
  rw [fm_upd f g i h hg, hb, fm_split f i h]
  cases hf : f i with
  | none => simp
  | some a => simp [List.eraseIdx_append_of_length_le]
theorem fm_same {α : Type} (f g : Nat → Option α) (h : ∀ j, g j = f j) : fm g 32 = fm f 32 := fm_congr _ _ _ (fun j _ => h j)
theorem fm_len_le {α : Type} (f : Nat → Option α) (n : Nat) : (fm f n).length ≤ n := by
  unfold fm
  have := List.length_filterMap_le f (List.range n)
  simpa using this
theorem fm_lt {α : Type} (f : Nat → Option α) (i : Nat) (h : i < 32) (hs : (f i).isSome = true) : (fm f i).length < (fm f 32).length := by
  rw [fm_split f i h]
  obtain ⟨a, ha⟩ := Option.isSome_iff_exists.1 hs
  simp [ha]
theorem fm_le {α : Type} (f : Nat → Option α) (i : Nat) (h : i < 32) : (fm f i).length ≤ (fm f 32).length := by
  rw [fm_split f i h]; simp
theorem fm_at {α : Type} (f : Nat → Option α) (i : Nat) (a : α) (h : i < 32) (hs : f i = some a) : (fm f 32)[(fm f i).length]? = some a := by
  rw [fm_split f i h, hs]
  simp
theorem fm_succ {α : Type} (f : Nat → Option α) (n : Nat) : fm f (n + 1) = fm f n ++ (f n).toList := by
  unfold fm
  rw [List.range_succ, List.filterMap_append]
  cases h : f n <;> simp [h]
/-- the set d has just the chunks of which f says so -/
structure BitsOf (d : Nat) (f : Nat → Bool) : Prop where
  lt : d < 4294967296
  bit : ∀ i, i < 32 → d.testBit i = f i
theorem testBit_big {d i : Nat} (h : d < 4294967296) (hi : 32 ≤ i) : d.testBit i = false := Nat.testBit_lt_two_pow (Nat.lt_of_lt_of_le h (by
  have : (2 : Nat) ^ 32 ≤ 2 ^ i := Nat.pow_le_pow_right (by decide) hi
  simpa using this))
theorem BitsOf.ext {d e : Nat} {f : Nat → Bool} (h : BitsOf d f) (k : BitsOf e f) : d = e := by
  apply Nat.eq_of_testBit_eq
  intro i
  rcases Nat.lt_or_ge i 32 with hi | hi
  · rw [h.bit i hi, k.bit i hi]
  · rw [testBit_big h.lt hi, testBit_big k.lt hi]
theorem onl_nat (i : Nat) (h : i < 32) : onl (i : Int) = 2 ^ i := by simp [onl]; omega
theorem has_bit (d i : Nat) (h : i < 32) : (d &&& onl (i : Int) != 0) = d.testBit i := by
  rw [onl_nat i h]
  have e : d &&& 2 ^ i = if d.testBit i = true then 2 ^ i else 0 := by
    apply Nat.eq_of_testBit_eq
    intro j
    rw [Nat.testBit_and, Nat.testBit_two_pow]
    by_cases hj : i = j
    · subst hj
      cases hb : d.testBit i <;> simp [hb, Nat.testBit_two_pow_self]
    · cases hb : d.testBit i <;> simp [hj, Nat.testBit_two_pow]
  rw [e]
  have := Nat.two_pow_pos i
  cases hb : d.testBit i <;> simp <;> omega
theorem has_out (d : Nat) (i : Int) (h : i < 0 ∨ 32 ≤ i) : (d &&& onl i != 0) = false := by
  have : onl i = 0 := by unfold onl; rw [if_neg (by omega)]
  simp [this]
theorem BitsOf.with_ {d i : Nat} {f g : Nat → Bool} (h : BitsOf d f) (hi : i < 32) (hg : ∀ j, j ≠ i → g j = f j) (hb : g i = true) : BitsOf (d ||| onl (i : Int)) g := by
  refine ⟨?_, fun j hj => ?_⟩
  · have := onl_lt (i : Int)
    have h1 := h.lt
    have := Nat.or_lt_two_pow (n := 32) (by simpa using h1) (by simpa using this)
    simpa using this
  · rw [onl_nat i hi, Nat.testBit_or, Nat.testBit_two_pow, h.bit j hj]
    by_cases e : i = j
    · subst e; simp [hb]
    · rw [hg j (Ne.symm e)]; simp [e]
theorem BitsOf.wo_ {d i : Nat} {f g : Nat → Bool} (h : BitsOf d f) (hi : i < 32) (hg : ∀ j, j ≠ i → g j = f j) (hb : g i = false) : BitsOf (wo d (onl (i : Int))) g := by
  have hlt := onl_lt (i : Int)
  refine ⟨?_, fun j hj => ?_⟩
  · unfold wo
    exact Nat.lt_of_le_of_lt Nat.and_le_left h.lt
  · unfold wo
    have e : 4294967295 - onl (i : Int) = 2 ^ 32 - (onl (i : Int) + 1) := by simp
    rw [e, Nat.testBit_and, Nat.testBit_two_pow_sub_succ (by simpa using hlt), h.bit j hj, onl_nat i hi, Nat.testBit_two_pow]
    by_cases e : i = j
    · subst e; simp [hb]
    · rw [hg j (Ne.symm e)]; simp [e, hj]
theorem BitsOf.same {d : Nat} {f g : Nat → Bool} (h : BitsOf d f) (hg : ∀ j, g j = f j) : BitsOf d g := ⟨h.lt, fun i hi => (h.bit i hi).trans (hg i).symm⟩
theorem BitsOf.zero {f : Nat → Bool} (h : ∀ j, f j = false) : BitsOf 0 f := ⟨by decide, fun i _ => by simp [h i]⟩
theorem cnt_fm {α : Type} {d : Nat} (f : Nat → Option α) (h : BitsOf d (fun i => (f i).isSome)) (n : Nat) (hn : n ≤ 32) : cnt n d = (fm f n).length := by
  induction n with
  | zero => rfl
  | succ n ih =>
    rw [cnt_add n 1 d, ih (by omega), fm_succ, List.length_append]
    congr 1
    have hb := h.bit n (by omega)
    rw [Nat.testBit_eq_decide_div_mod_eq] at hb
    simp only [cnt]
    have : d / 2 ^ n % 2 < 2 := Nat.mod_lt _ (by decide)
    rcases (by omega : d / 2 ^ n % 2 = 0 ∨ d / 2 ^ n % 2 = 1) with hx | hx
    · rw [hx] at hb ⊢
      cases hf : f n with
      | none => rfl
      | some a => rw [hf] at hb; simp at hb
    · rw [hx] at hb ⊢
      cases hf : f n with
      | none => rw [hf] at hb; simp at hb
      | some a => rfl
end Go.Proofs.Ytfmbikmpobieoaa
