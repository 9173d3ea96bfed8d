/- slices.Delete of one element. -/
import Derived.Test.YtchimfgbdfmegaaGreatGab
import Derived.Shelf.RegionOpenPlain
import Derived.Laws.Externs
import Derived.Laws.NewBlocks
namespace Go.Proofs.YtchimfgbdfmegaaGreat
open Go.RowKit Go.Lib
set_option linter.unusedVariables false
set_option maxRecDepth 100000
set_option maxRecDepth 100000
set_option linter.unusedSimpArgs false
theorem zc_pairs : (Builtin.zeroCells (Value.cells (.agg #[.string ByteArray.empty, .string ByteArray.empty])) 1).toList = [.string ByteArray.empty, .string ByteArray.empty] := by
  have e : Value.cells (.agg #[.string ByteArray.empty, .string ByteArray.empty]) = #[.string ByteArray.empty, .string ByteArray.empty] := by simp [Value.cells]
  rw [e]
  apply List.ext_getElem
  · simp [Builtin.zeroCells]
  · intro k h1 h2
    simp [Builtin.zeroCells] at h1
    match k, h1 with
    | 0, _ => simp [Builtin.zeroCells]
    | 1, _ => simp [Builtin.zeroCells]
theorem zc_kids : (Builtin.zeroCells (Value.cells (.pointer none)) 1).toList = [.pointer none] := by
  have e : Value.cells (.pointer none) = #[.pointer none] := by simp [Value.cells]
  rw [e]
  apply List.ext_getElem
  · simp [Builtin.zeroCells]
  · intro k h1 h2
    simp [Builtin.zeroCells] at h1
    match k, h1 with
    | 0, _ => simp [Builtin.zeroCells]
theorem over_take (X : Array Value) (o : Nat) (vs : List Value) (k : Nat) (h : o + vs.length = k) (ho : o ≤ X.size) : (over X o vs).toList.take k = X.toList.take o ++ vs := by
  unfold over splice
  rw [List.take_append, List.take_append, List.take_of_length_le (by simp; omega), List.take_of_length_le (l := vs) (by simp; omega), List.length_take, Array.length_toList, show min o X.size = o by omega, show k - o - vs.length = 0 by omega, List.take_zero, List.append_nil]
theorem over_take_le (X : Array Value) (o : Nat) (vs : List Value) (k : Nat) (h : k ≤ o) (ho : o ≤ X.size) : (over X o vs).toList.take k = X.toList.take k := by
  unfold over splice
  rw [List.take_append_of_le_length (by simp; omega), List.take_take, show min k o = k by omega]
theorem info39 : (Tryz.prog.info? 29).map (fun i => (i.zero, i.size, i.bytes)) = some (some (.pointer none), 1, 8) := by kernel_rfl

set_option maxRecDepth 100000 in
set_option maxHeartbeats 4000000 in
theorem del_kids (base i j n : Nat) (v : Value) (cs : List Value) (w : World) (h : w.ownsRow base 29 1 v n cs) (hi : i < n) (hij : Hid (j = i + 1)) (hn : n ≤ 1000) (h1 : ∀ u ∈ cs, u.oneCell' = true) :
    Calls Tryz.prog 76 #[v, .int .i64 i, .int .i64 j] w fun e w' => ∃ g cap, v = .slice (some ⟨g, 0, none⟩) n cap ∧ e = .returned (.slice (some ⟨g, 0, none⟩) (n - 1) cap) ∧ w'.ownsRow base 29 1 (.slice (some ⟨g, 0, none⟩) (n - 1) cap) (n - 1) (cs.take (i * 1) ++ cs.drop ((i + 1) * 1)) ∧ Keep [g] w w' := by
  obtain ⟨i0, hI, hz0, hz1, hz2⟩ := info_parts info39
  have hlen := h.1
  obtain ⟨g, cap, cur, rfl, hg, hB, hc, hcm, hs, ht⟩ := own_blk h (by omega)
  have hmx : cap ≤ 9223372036854775807 := by unfold maxLen at hcm; omega
  have hv23 : ∀ w, (zeroValue 29).run Tryz.prog w = .ok (.pointer none) w := fun w => by simp [zeroValue, typeInfo, hI, hz0]
  obtain ⟨m, hm⟩ : ∃ m, m = n - j := ⟨_, rfl⟩
  have hji := hij.out
  -- the cells that move
  obtain ⟨news, hnews⟩ : ∃ news, news = cs.drop (j * 1) := ⟨_, rfl⟩
  have hnl : news.length = m * 1 := by rw [hnews, List.length_drop, hlen, hm, Nat.sub_mul]
  have hcell : ∀ t u, news[t]? = some u → w.cell? ⟨g, j * 1 + t, none⟩ = some u := fun t u hu => by
    rw [hnews, List.getElem?_drop, ← ht, List.getElem?_take] at hu
    split at hu
    · rw [hB.cell]; rwa [Array.getElem?_toList] at hu
    · cases hu
  obtain ⟨A, hA, hsrc⟩ : ∃ A : Addr, (if cap = j then some (⟨g, 0, none⟩ : Addr) else some ⟨g, j * 1, none⟩) = some A ∧ Hid (∀ t u, news[t]? = some u → w.drew.cell? (A.add t) = some u) := by
    by_cases hcj : cap = j
    · refine ⟨⟨g, 0, none⟩, by simp [hcj], Lib.hid fun t u hu => ?_⟩
      have h0 : news.length = 0 := by rw [hnl, hm, show n - j = 0 by omega, Nat.zero_mul]
      rw [List.length_eq_zero_iff.1 h0] at hu
      simp at hu
    · refine ⟨⟨g, j * 1, none⟩, by simp [hcj], Lib.hid fun t u hu => ?_⟩
      rw [addr_at]
      exact hcell t u hu
  have hfit1 : i * 1 + news.length ≤ cur.size := by rw [hnl, hs, ← Nat.add_mul]; exact Nat.mul_le_mul_right _ (by omega)
  have hsp : Hid (∀ t, t < news.length → (w.drew.cell? ⟨g, 0 + i * 1 + t, none⟩).isSome = true ∧ w.drew.frozen? ⟨g, 0 + i * 1 + t, none⟩ = false) := Lib.hid fun t ht => by
    refine ⟨?_, hB.frozen _⟩
    show (w.cell? _).isSome = true
    rw [hB.cell, Nat.zero_add, Array.getElem?_eq_getElem (by omega)]; rfl
  have h1n : Hid (∀ u ∈ news, u.oneCell' = true) := Lib.hid fun u hu => h1 u (by rw [hnews] at hu; exact List.mem_of_mem_drop hu)
  -- the world behind the append
  obtain ⟨W1, hW1⟩ : ∃ W1, W1 = w.drew.setCells g (0 + i * 1) news := ⟨_, rfl⟩
  have hW1r : W1 = w.drew.setRow g (over cur (i * 1) news) := by rw [hW1, Nat.zero_add]; exact setCells_row g 29 news _ cur w.drew hB hfit1
  have hB1 : Blk W1 g 29 (over cur (i * 1) news) := by rw [hW1r]; exact Blk.row (w := w.drew) hB _
  have hK1 : Keep [g] w W1 := by rw [hW1r]; exact (Keep.refl [g] w).drew.setRow (by simp) _
  obtain ⟨zs, hzs⟩ : ∃ zs, zs = (Builtin.zeroCells (Value.cells (.pointer none)) 1).toList := ⟨_, rfl⟩
  have hzl : zs.length = 1 := by rw [hzs, zc_kids]; rfl
  have hos := over_size cur (i * 1) news hfit1
  have hfit2 : (i + m) * 1 + zs.length ≤ (over cur (i * 1) news).size := by rw [hos, hzl, hs]; omega
  obtain ⟨R2, hR2⟩ : ∃ R2, R2 = over (over cur (i * 1) news) ((i + m) * 1) zs := ⟨_, rfl⟩
  have hcl : ∀ ty c, (Builtin.clear_ #[96] ty #[.slice (some ⟨g, i + m, none⟩) 1 c]).run Tryz.prog W1 = .ok (.tuple #[]) (W1.setRow g R2) := fun ty c => by
    have ea : (⟨g, i + m, none⟩ : Addr) = ⟨g, (i + m) * 1, none⟩ := by rw [Nat.mul_one]
    rw [ea]
    rw [hR2, hzs]
    exact run_clearS W1 96 29 ty _ Tryz.underlying96 hv23 g _ 1 c _ 29 hB1 (by decide) (by intro u hu; rw [zc_kids] at hu; simp at hu; subst hu; rfl) (by rw [← hzs]; exact hfit2)
  have HW1 := Lib.hid hW1
  have e1 : n - (i + m) = 1 := by omega
  have e2 : i + (n - j) = i + m := by omega
  have hic : i ≤ cap := by omega
  have hjc : j ≤ cap := by omega
  have hjn : j ≤ n := by omega
  have hne : ¬ ((i : Int) = (j : Int)) := by omega
  have HT := Lib.hid ht
  have HR2 := Lib.hid hR2
  have HN := Lib.hid hnews
  have HL := Lib.hid hlen
  clear hW1 hW1r hcell hji hnews hv23 hlen hzs hB ht hR2
  have mixed : Tryz.prog.follows .mixedOrders = true := by kernel_rfl
  simp only [Nat.mul_one] at hA
  go_enter Tryz.func76, Tryz.ntmps76
  go_wp2_with fail
  go_region_law_o (refine step_append_room rfl (.tmp 22) (.tmp 25) 96 rfl 29 i0 1 Tryz.underlying96 hI hz1 g 0 i cap (by simp [Act.eval, Act.put]) A (n - j) (cap - j) news (by simp [Act.eval, Act.put, hA]) (by rw [hnl, hm]) hsrc.out h1n.out (by omega) hsp.out ?_; rw [← HW1.out])
  clear hsrc hsp h1n HW1 hA
  go_wp2_with fail
  go_ret
  refine ⟨g, cap, rfl, by rw [show n - 1 = i + m by omega]; rfl, ?_, hK1.setRow (by simp) _⟩
  have hj2 := hij.out
  refine ⟨?_, .inr ⟨g, cap, _, rfl, hg, hB1.row _, by omega, hcm, by rw [HR2.out, over_size _ _ _ hfit2, hos, hs], ?_⟩⟩
  · rw [List.length_append, List.length_take, List.length_drop, HL.out]; omega
  · rw [HR2.out, show n - 1 = i + m by omega, over_take_le _ _ _ _ (Nat.le_refl _) (by omega), over_take _ _ _ _ (by rw [hnl]; omega) (by omega), ← hj2, ← HN.out, ← HT.out, List.take_take, show min (i * 1) (n * 1) = i * 1 by omega]

set_option maxRecDepth 100000 in
set_option maxHeartbeats 4000000 in
theorem del_pairs (base i j n : Nat) (v : Value) (cs : List Value) (w : World) (h : w.ownsRow base 52 2 v n cs) (hi : i < n) (hij : Hid (j = i + 1)) (hn : n ≤ 1000) (h1 : ∀ u ∈ cs, u.oneCell' = true) :
    Calls Tryz.prog 74 #[v, .int .i64 i, .int .i64 j] w fun e w' => ∃ g cap, v = .slice (some ⟨g, 0, none⟩) n cap ∧ e = .returned (.slice (some ⟨g, 0, none⟩) (n - 1) cap) ∧ w'.ownsRow base 52 2 (.slice (some ⟨g, 0, none⟩) (n - 1) cap) (n - 1) (cs.take (i * 2) ++ cs.drop ((i + 1) * 2)) ∧ Keep [g] w w' := by
  obtain ⟨i0, hI, hz0, hz1, hz2⟩ := info_parts info33
  have hlen := h.1
  obtain ⟨g, cap, cur, rfl, hg, hB, hc, hcm, hs, ht⟩ := own_blk h (by omega)
  have hmx : cap ≤ 9223372036854775807 := by unfold maxLen at hcm; omega
  have hv23 : ∀ w, (zeroValue 52).run Tryz.prog w = .ok (.agg #[.string ByteArray.empty, .string ByteArray.empty]) w := fun w => by simp [zeroValue, typeInfo, hI, hz0]
  obtain ⟨m, hm⟩ : ∃ m, m = n - j := ⟨_, rfl⟩
  have hji := hij.out
  -- the cells that move
  obtain ⟨news, hnews⟩ : ∃ news, news = cs.drop (j * 2) := ⟨_, rfl⟩
  have hnl : news.length = m * 2 := by rw [hnews, List.length_drop, hlen, hm, Nat.sub_mul]
  have hcell : ∀ t u, news[t]? = some u → w.cell? ⟨g, j * 2 + t, none⟩ = some u := fun t u hu => by
    rw [hnews, List.getElem?_drop, ← ht, List.getElem?_take] at hu
    split at hu
    · rw [hB.cell]; rwa [Array.getElem?_toList] at hu
    · cases hu
  obtain ⟨A, hA, hsrc⟩ : ∃ A : Addr, (if cap = j then some (⟨g, 0, none⟩ : Addr) else some ⟨g, j * 2, none⟩) = some A ∧ Hid (∀ t u, news[t]? = some u → w.drew.cell? (A.add t) = some u) := by
    by_cases hcj : cap = j
    · refine ⟨⟨g, 0, none⟩, by simp [hcj], Lib.hid fun t u hu => ?_⟩
      have h0 : news.length = 0 := by rw [hnl, hm, show n - j = 0 by omega, Nat.zero_mul]
      rw [List.length_eq_zero_iff.1 h0] at hu
      simp at hu
    · refine ⟨⟨g, j * 2, none⟩, by simp [hcj], Lib.hid fun t u hu => ?_⟩
      rw [addr_at]
      exact hcell t u hu
  have hfit1 : i * 2 + news.length ≤ cur.size := by rw [hnl, hs, ← Nat.add_mul]; exact Nat.mul_le_mul_right _ (by omega)
  have hsp : Hid (∀ t, t < news.length → (w.drew.cell? ⟨g, 0 + i * 2 + t, none⟩).isSome = true ∧ w.drew.frozen? ⟨g, 0 + i * 2 + t, none⟩ = false) := Lib.hid fun t ht => by
    refine ⟨?_, hB.frozen _⟩
    show (w.cell? _).isSome = true
    rw [hB.cell, Nat.zero_add, Array.getElem?_eq_getElem (by omega)]; rfl
  have h1n : Hid (∀ u ∈ news, u.oneCell' = true) := Lib.hid fun u hu => h1 u (by rw [hnews] at hu; exact List.mem_of_mem_drop hu)
  -- the world behind the append
  obtain ⟨W1, hW1⟩ : ∃ W1, W1 = w.drew.setCells g (0 + i * 2) news := ⟨_, rfl⟩
  have hW1r : W1 = w.drew.setRow g (over cur (i * 2) news) := by rw [hW1, Nat.zero_add]; exact setCells_row g 52 news _ cur w.drew hB hfit1
  have hB1 : Blk W1 g 52 (over cur (i * 2) news) := by rw [hW1r]; exact Blk.row (w := w.drew) hB _
  have hK1 : Keep [g] w W1 := by rw [hW1r]; exact (Keep.refl [g] w).drew.setRow (by simp) _
  obtain ⟨zs, hzs⟩ : ∃ zs, zs = (Builtin.zeroCells (Value.cells (.agg #[.string ByteArray.empty, .string ByteArray.empty])) 1).toList := ⟨_, rfl⟩
  have hzl : zs.length = 2 := by rw [hzs, zc_pairs]; rfl
  have hos := over_size cur (i * 2) news hfit1
  have hfit2 : (i + m) * 2 + zs.length ≤ (over cur (i * 2) news).size := by rw [hos, hzl, hs]; omega
  obtain ⟨R2, hR2⟩ : ∃ R2, R2 = over (over cur (i * 2) news) ((i + m) * 2) zs := ⟨_, rfl⟩
  have hcl : ∀ ty c, (Builtin.clear_ #[27] ty #[.slice (some ⟨g, (i + m) * 2, none⟩) 1 c]).run Tryz.prog W1 = .ok (.tuple #[]) (W1.setRow g R2) := fun ty c => by
    rw [hR2, hzs]
    exact run_clearS W1 27 52 ty _ Tryz.underlying27 hv23 g _ 1 c _ 52 hB1 (by decide) (by intro u hu; rw [zc_pairs] at hu; simp at hu; subst hu; rfl) (by rw [← hzs]; exact hfit2)
  have HW1 := Lib.hid hW1
  have e1 : n - (i + m) = 1 := by omega
  have e2 : i + (n - j) = i + m := by omega
  have hic : i ≤ cap := by omega
  have hjc : j ≤ cap := by omega
  have hjn : j ≤ n := by omega
  have hne : ¬ ((i : Int) = (j : Int)) := by omega
  have HT := Lib.hid ht
  have HR2 := Lib.hid hR2
  have HN := Lib.hid hnews
  have HL := Lib.hid hlen
  clear hW1 hW1r hcell hji hnews hv23 hlen hzs hB ht hR2
  have mixed : Tryz.prog.follows .mixedOrders = true := by kernel_rfl
  go_enter Tryz.func74, Tryz.ntmps74
  go_wp2_with fail
  go_region_law_o (refine step_append_room rfl (.tmp 22) (.tmp 25) 27 rfl 52 i0 2 Tryz.underlying27 hI hz1 g 0 i cap (by simp [Act.eval, Act.put]) A (n - j) (cap - j) news (by simp [Act.eval, Act.put, hA]) (by rw [hnl, hm]) hsrc.out h1n.out (by omega) hsp.out ?_; rw [← HW1.out])
  clear hsrc hsp h1n HW1 hA
  go_wp2_with fail
  go_ret
  refine ⟨g, cap, rfl, by rw [show n - 1 = i + m by omega]; rfl, ?_, hK1.setRow (by simp) _⟩
  have hj2 := hij.out
  refine ⟨?_, .inr ⟨g, cap, _, rfl, hg, hB1.row _, by omega, hcm, by rw [HR2.out, over_size _ _ _ hfit2, hos, hs], ?_⟩⟩
  · rw [List.length_append, List.length_take, List.length_drop, HL.out]; omega
  · rw [HR2.out, show n - 1 = i + m by omega, over_take_le _ _ _ _ (Nat.le_refl _) (by omega), over_take _ _ _ _ (by rw [hnl]; omega) (by omega), ← hj2, ← HN.out, ← HT.out, List.take_take, show min (i * 2) (n * 2) = i * 2 by omega]
end Go.Proofs.YtchimfgbdfmegaaGreat
/- slices.Insert into a row that is known whole. -/
namespace Go.Proofs.YtchimfgbdfmegaaGreat
open Go.RowKit Go.Lib
set_option linter.unusedVariables false
set_option maxRecDepth 100000
set_option maxRecDepth 100000
set_option linter.unusedSimpArgs false
theorem over_drop (X : Array Value) (o : Nat) (vs : List Value) (h : o + vs.length ≤ X.size ∨ o ≤ X.size) : (over X o vs).toList.drop (o + vs.length) = X.toList.drop (o + vs.length) := by
  unfold over splice
  have ho : o ≤ X.size := by omega
  rw [List.drop_append, List.drop_append, List.drop_of_length_le (by simp; omega), List.drop_of_length_le (l := vs) (by simp; omega), List.length_take, show min o X.toList.length = o by simp; omega, show o + vs.length - o - vs.length = 0 by omega, List.drop_zero, List.nil_append, List.nil_append]
theorem over_mid (X : Array Value) (o : Nat) (vs : List Value) (k : Nat) (h : k = vs.length) (hf : o + k ≤ X.size) : ((over X o vs).toList.drop o).take k = vs := by
  unfold over splice
  rw [List.drop_append, List.drop_of_length_le (by simp; omega), List.length_take, Array.length_toList, show min o X.size = o by omega, Nat.sub_self, List.drop_zero, List.nil_append, List.take_append_of_le_length (by omega), List.take_of_length_le (by omega)]
theorem zsz_pairs : (Value.cells (.agg #[.string ByteArray.empty, .string ByteArray.empty])).size = 2 := by simp [Value.cells]
theorem zsz_kids : (Value.cells (.pointer none)).size = 1 := by simp [Value.cells]

/-- what slices.Insert leaves -/
def InsPost27 (base i n m : Nat) (v : Value) (cs el : List Value) (w : World) (e : Ending) (w' : World) : Prop :=
  ∃ v', e = .returned v' ∧ w'.ownsRow base 52 2 v' (n + m) (cs.take (i * 2) ++ (el ++ cs.drop (i * 2))) ∧ (v'.ownBlock = v.ownBlock ∨ v'.ownBlock = some w.heap.size) ∧ Keep v.ownBlock.toList w w'
set_option maxRecDepth 100000 in
set_option maxHeartbeats 4000000 in
theorem ins_pairs_shift (base i n m vb : Nat) (v : Value) (cs el : List Value) (w : World) (h : w.ownsRow base 52 2 v n cs) (hi : i < n) (hm : 0 < m) (hn : n + m ≤ 1000) (h1 : ∀ u ∈ cs, u.oneCell' = true) (h1e : ∀ u ∈ el, u.oneCell' = true)
    (hv : Blk w vb 52 el.toArray) (hel : el.length = m * 2) (hne : v.ownBlock ≠ some vb) (g cap : Nat) (hvv : v = .slice (some ⟨g, 0, none⟩) n cap) (hroom : n + m ≤ cap) :
    Calls Tryz.prog 102 #[v, .int .i64 i, .slice (some ⟨vb, 0, none⟩) m m] w (InsPost27 base i n m v cs el w) := by
  obtain ⟨i0, hI, hz0, hz1, hz2⟩ := info_parts info33
  have hlen := h.1
  obtain ⟨g', cap', cur, hv', hg, hB, hc, hcm, hs, ht⟩ := own_blk h (by omega)
  subst hvv
  simp only [Value.slice.injEq, Option.some.injEq, Addr.mk.injEq, and_true, true_and] at hv'
  obtain ⟨rfl, rfl⟩ := hv'
  have hvg : vb ≠ g := fun e => hne (by rw [e]; rfl)
  have hmx : cap ≤ 9223372036854775807 := by unfold maxLen at hcm; omega
  have hsz : (Tryz.prog.info? 52).map (·.size) = some 2 := by rw [hI]; simp [hz1]
  have hsz' : ∀ w, (Go.sizeOf 52).run Tryz.prog w = .ok 2 w := fun w => by simp [sizeOf, typeInfo, hI, hz1]
  have hq1 : ¬ ((m : Int) = 0) := by omega
  have hq2 : ¬ ((i : Int) = (n : Int)) := by omega
  have hov : ∀ lb cb, (callFunc 117 #[.slice (some ⟨vb, 0, none⟩) m m, .slice (some ⟨g, (i + m) * 2, none⟩) lb cb]).run Tryz.prog w = .ok (.value (.bool false)) w := fun lb cb => by
    have hshv : w.shape? vb = some (52, el.toArray.size) := by have h' := hv; unfold Blk at h'; simp [World.shape?, h']
    have hshg : w.shape? g = some (52, cur.size) := by have h' := hB; unfold Blk at h'; simp [World.shape?, h']
    rw [run_callFunc_extern Tryz.func117 (by kernel_rfl) (by kernel_rfl) (by kernel_rfl) (e := Extern.SlicesOverlaps.overlaps #[27, 27] #[4]) (by kernel_rfl),
      Lib.run_overlaps_apart w 27 4 52 Tryz.underlying27 2 hsz' ⟨vb, 0, none⟩ ⟨g, (i + m) * 2, none⟩ m m lb cb hvg _ _ _ _ hshv hshg (by rw [hs]; omega) (hv.frozen _) (hv.frozen _)]
    rfl
  obtain ⟨D, hD⟩ : ∃ D, D = cs.drop (i * 2) := ⟨_, rfl⟩
  have hDl : D.length = (n - i) * 2 := by rw [hD, List.length_drop, hlen, Nat.sub_mul]
  have hDc : ∀ j u, D[j]? = some u → w.cell? ⟨g, i * 2 + j, none⟩ = some u := fun j u hu => by
    rw [hD, List.getElem?_drop, ← ht, List.getElem?_take] at hu
    split at hu
    · rw [hB.cell]; rwa [Array.getElem?_toList] at hu
    · cases hu
  have hf1 : (i + m) * 2 + D.length ≤ cur.size := by rw [hDl, hs, ← Nat.add_mul]; exact Nat.mul_le_mul_right _ (by omega)
  obtain ⟨R1, hR1⟩ : ∃ R1, R1 = over cur ((i + m) * 2) D := ⟨_, rfl⟩
  have hR1s : R1.size = cur.size := by rw [hR1]; exact over_size _ _ _ hf1
  have hcp1 : ∀ ty dc sc, (Builtin.copy_ #[27, 27] ty #[.slice (some ⟨g, (i + m) * 2, none⟩) (n + m - (i + m)) dc, .slice (some ⟨g, (i) * 2, none⟩) (n + m - i) sc]).run Tryz.prog w.drew = .ok (goInt ((n - i : Nat) : Int)) (w.drew.setRow g R1) := fun ty dc sc => by
    have e := run_copyS (P := Tryz.prog) w.drew 27 27 ty 52 2 g ((i + m) * 2) (n + m - (i + m)) dc ⟨g, i * 2, none⟩ (n + m - i) sc cur 52 D Tryz.underlying27 hsz hB
      (by rw [hDl]; congr 1; simp only [Nat.min_def]; split <;> omega) (fun j u hu => by rw [addr_at]; exact hDc j u hu) hf1 (fun u hu => h1 u (by rw [hD] at hu; exact List.mem_of_mem_drop hu))
    rw [show Nat.min (n + m - i) (n + m - (i + m)) = n - i by simp only [Nat.min_def]; split <;> omega, ← hR1] at e
    simpa only [Nat.mul_one] using e
  have hB1 : Blk (w.drew.setRow g R1) g 52 R1 := Blk.row (w := w.drew) hB _
  have hK1 : Keep [g] w (w.drew.setRow g R1) := (Keep.refl [g] w).drew.setRow (by simp) _
  have hv1 : Blk (w.drew.setRow g R1) vb 52 el.toArray := hv.keep hK1 (by simpa using hvg)
  have hf2 : i * 2 + el.length ≤ R1.size := by rw [hel, hR1s, hs, ← Nat.add_mul]; exact Nat.mul_le_mul_right _ (by omega)
  obtain ⟨R2, hR2⟩ : ∃ R2, R2 = over R1 (i * 2) el := ⟨_, rfl⟩
  have hR2s : R2.size = cur.size := by rw [hR2, over_size _ _ _ hf2]; exact hR1s
  obtain ⟨W1, hW1⟩ : ∃ W1, W1 = w.drew.setRow g R1 := ⟨_, rfl⟩
  rw [← hW1] at hB1 hK1 hv1 hcp1
  have hcp2 : ∀ ty dc, (Builtin.copy_ #[27, 27] ty #[.slice (some ⟨g, (i) * 2, none⟩) (n + m - i) dc, .slice (some ⟨vb, 0, none⟩) m m]).run Tryz.prog W1 = .ok (goInt m) (W1.setRow g R2) := fun ty dc => by
    have e := run_copyS (P := Tryz.prog) W1 27 27 ty 52 2 g (i * 2) (n + m - i) dc ⟨vb, 0, none⟩ m m R1 52 el Tryz.underlying27 hsz hB1
      (by rw [hel]; congr 1; simp only [Nat.min_def]; split <;> omega) (fun j u hu => by rw [addr_at, Nat.zero_add, hv1.cell]; simpa using hu) hf2 h1e
    rw [show Nat.min m (n + m - i) = m by simp only [Nat.min_def]; split <;> omega, ← hR2] at e
    simpa only [Nat.mul_one] using e
  have hw1 : IntKind.i64.wrap ((i : Int) + (m : Int)) = (i : Int) + (m : Int) := IntWalk.i64_in _ (by omega)
  have hb1 : (0 : Int) ≤ (i : Int) + (m : Int) := by omega
  have hin : i ≤ n := by omega
  have htn : ((i : Int) + (m : Int)).toNat = i + m := by omega
  have hb2 : ¬ (cap = i + m) := by omega
  have hb3 : (i : Int) ≤ (n : Int) + (m : Int) := by omega
  have hb4 : ¬ (cap = i) := by omega
  have HT := Lib.hid ht
  have HD := Lib.hid hD
  have HL := Lib.hid hlen
  have HR1 := Lib.hid hR1
  have HR2 := Lib.hid hR2
  have HS := Lib.hid hs
  have HE := Lib.hid hel
  have HDL := Lib.hid hDl
  clear hW1 hR1 hR2 hD ht hlen hsz hsz' hDc hs hB hv hv1 h hne hel hDl
  have mixed : Tryz.prog.follows .mixedOrders = true := by kernel_rfl
  go_enter Tryz.func102, Tryz.ntmps102
  go_wp2_with (simp only [hov])
  go_region_law_o (refine step_copyR rfl _ _ 27 27 rfl _ _ (by simp [Act.eval, Act.put]) (by simp [Act.eval, Act.put]) (hcp1 _ _ _) ?_)
  go_wp2_with (refine wpList_copyR _ rfl _ _ 27 27 rfl _ _ rfl rfl (hcp2 _ _) ?_)
  go_ret
  refine ⟨.slice (some ⟨g, 0, none⟩) (n + m) cap, rfl, ⟨?_, .inr ⟨g, cap, R2, rfl, hg, hB1.row R2, hroom, hcm, by rw [hR2s, HS.out], ?_⟩⟩, .inl rfl, hK1.setRow (by simp) _⟩
  · rw [List.length_append, List.length_append, List.length_take, List.length_drop, HL.out, HE.out]; omega
  · have e1 : R2.toList.take (i * 2 + el.length) = R1.toList.take (i * 2) ++ el := by rw [HR2.out]; exact over_take _ _ _ _ rfl (by rw [hR1s, HS.out]; omega)
    have e2 : R2.toList.take ((n + m) * 2) = R2.toList.take (i * 2 + el.length) ++ (R2.toList.drop (i * 2 + el.length)).take ((n - i) * 2) := by
      rw [← List.take_add, HE.out]; congr 1; omega
    have e3 : R2.toList.drop (i * 2 + el.length) = R1.toList.drop (i * 2 + el.length) := by rw [HR2.out]; exact over_drop _ _ _ (by omega)
    have e4 : (R1.toList.drop (i * 2 + el.length)).take ((n - i) * 2) = D := by
      rw [HR1.out, HE.out, ← Nat.add_mul]; exact over_mid _ _ _ _ HDL.out.symm (by rw [HDL.out] at hf1; omega)
    have e5 : R1.toList.take (i * 2) = cs.take (i * 2) := by
      rw [HR1.out, over_take_le _ _ _ _ (by omega) (by omega), ← HT.out, List.take_take, show min (i * 2) (n * 2) = i * 2 by omega]
    rw [e2, e3, e4, e1, e5, HD.out, List.append_assoc]
set_option maxRecDepth 100000 in
set_option maxHeartbeats 4000000 in
theorem ins_pairs_grow (base i n m vb : Nat) (v : Value) (cs el : List Value) (w : World) (h : w.ownsRow base 52 2 v n cs) (hi : i < n) (hm : 0 < m) (hn : n + m ≤ 1000) (h1 : ∀ u ∈ cs, u.oneCell' = true) (h1e : ∀ u ∈ el, u.oneCell' = true)
    (hv : Blk w vb 52 el.toArray) (hel : el.length = m * 2) (hbase : base ≤ w.heap.size) (g cap : Nat) (hvv : v = .slice (some ⟨g, 0, none⟩) n cap) (hroom : cap < n + m) :
    Calls Tryz.prog 102 #[v, .int .i64 i, .slice (some ⟨vb, 0, none⟩) m m] w (InsPost27 base i n m v cs el w) := by
  obtain ⟨i0, hI, hz0, hz1, hz2⟩ := info_parts info33
  have hlen := h.1
  obtain ⟨g', cap', cur, hv', hg, hB, hc, hcm, hs, ht⟩ := own_blk h (by omega)
  subst hvv
  simp only [Value.slice.injEq, Option.some.injEq, Addr.mk.injEq, and_true, true_and] at hv'
  obtain ⟨rfl, rfl⟩ := hv'
  have hsz : (Tryz.prog.info? 52).map (·.size) = some 2 := by rw [hI]; simp [hz1]
  have hq1 : ¬ ((m : Int) = 0) := by omega
  have hq2 : ¬ ((i : Int) = (n : Int)) := by omega
  have hq3 : (cap : Int) < (n : Int) + (m : Int) := by omega
  have hkk : (n : Int) + (m : Int) - (i : Int) = ((n + m - i : Nat) : Int) := by omega
  have hik : i + (n + m - i) = n + m := by omega
  have hcc : ∀ j u, cs[j]? = some u → w.cell? ⟨g, j, none⟩ = some u := fun j u hu => by
    rw [← ht, List.getElem?_take] at hu
    split at hu
    · rw [hB.cell]; rwa [Array.getElem?_toList] at hu
    · cases hu
  have hold : (Builtin.firstCells i0.size i (.slice (some ⟨g, 0, none⟩) i cap)).run Tryz.prog w.drew = .ok (cs.take (i * 2)).toArray w.drew := by
    rw [hz1]
    refine run_firstCells_some w.drew 2 i ⟨g, 0, none⟩ i cap (cs.take (i * 2)) (by rw [List.length_take, hlen]; omega) (fun j u hj => ?_)
    rw [addr_at, Nat.zero_add]
    rw [List.getElem?_take] at hj
    split at hj
    · exact hcc j u hj
    · cases hj
  have hrz : ∀ ty, (Builtin.append_ #[27, 3] ty #[.slice (some ⟨g, 0, none⟩) i cap, .int .i64 ((n : Int) + (m : Int) - (i : Int))]).run Tryz.prog w =
      .ok (.slice (some ⟨w.heap.size, 0, none⟩) (n + m) (grownCap w (n + m) cap 52)) (w.drew.alloc (.cells ((cs.take (i * 2)).toArray ++ Builtin.zeroCells (Value.cells (.agg #[.string ByteArray.empty, .string ByteArray.empty])) (n + m - i) ++ Builtin.zeroCells (Value.cells (.agg #[.string ByteArray.empty, .string ByteArray.empty])) (grownCap w (n + m) cap 52 - (n + m))) 52)) := fun ty => by
    have h := Lib.run_append_grow_zeros (P := Tryz.prog) w 27 3 ty 52 i0 _ .i64 .i64 Tryz.underlying27 Tryz.underlying3 hI hz0 (some ⟨g, 0, none⟩) i cap (cs.take (i * 2)) hold (n + m - i) (by omega) (by omega) (by omega) (by omega) (by rw [hz2]; omega) (by rw [hz2, hik]; exact growslice_fits hroom (by omega))
    rw [hik] at h
    rw [hkk]
    exact h
  have hcg := grownCap_ge w (n + m) cap 52
  have hcgm := grownCap_le_maxLen w (n + m) cap 52 (by unfold maxLen; omega)
  generalize grownCap w (n + m) cap 52 = G at *
  obtain ⟨ROW, hROW⟩ : ∃ ROW : Array Value, ROW = (cs.take (i * 2)).toArray ++ Builtin.zeroCells (Value.cells (.agg #[.string ByteArray.empty, .string ByteArray.empty])) (n + m - i) ++ Builtin.zeroCells (Value.cells (.agg #[.string ByteArray.empty, .string ByteArray.empty])) (G - (n + m)) := ⟨_, rfl⟩
  rw [← hROW] at hrz
  have hRs : ROW.size = G * 2 := by
    rw [hROW, Array.size_append, Array.size_append, List.size_toArray, List.length_take, hlen]
    simp only [Builtin.zeroCells, Array.size_map, Array.size_range, zsz_pairs]
    omega
  have hRt : ROW.toList.take (i * 2) = cs.take (i * 2) := by
    have e : ROW.toList = cs.take (i * 2) ++ ((Builtin.zeroCells (Value.cells (.agg #[.string ByteArray.empty, .string ByteArray.empty])) (n + m - i)).toList ++ (Builtin.zeroCells (Value.cells (.agg #[.string ByteArray.empty, .string ByteArray.empty])) (G - (n + m))).toList) := by rw [hROW]; simp
    rw [e, List.take_append_of_le_length (by rw [List.length_take, hlen]; omega), List.take_take, Nat.min_self]
  obtain ⟨N, hN⟩ : ∃ N, N = w.heap.size := ⟨_, rfl⟩
  rw [← hN] at hrz hbase
  obtain ⟨W1, hW1⟩ : ∃ W1, W1 = w.drew.alloc (.cells ROW 52) := ⟨_, rfl⟩
  have hBN : Blk W1 N 52 ROW := by rw [hW1, hN]; exact Blk.new w.drew 52 ROW
  have hK0 : Keep [N] w W1 := by rw [hW1]; exact (Keep.refl [N] w).drew.alloc _
  have hbl := hB.lt
  have hvl := hv.lt
  have hB1 : Blk W1 g 52 cur := hB.keep hK0 (by simp; omega)
  have hv1 : Blk W1 vb 52 el.toArray := hv.keep hK0 (by simp; omega)
  obtain ⟨D, hD⟩ : ∃ D, D = cs.drop (i * 2) := ⟨_, rfl⟩
  have hDl : D.length = (n - i) * 2 := by rw [hD, List.length_drop, hlen, Nat.sub_mul]
  obtain ⟨R1, hR1⟩ : ∃ R1, R1 = over ROW (i * 2) el := ⟨_, rfl⟩
  have hf1 : i * 2 + el.length ≤ ROW.size := by rw [hel, hRs, ← Nat.add_mul]; exact Nat.mul_le_mul_right _ (by omega)
  have hR1s : R1.size = ROW.size := by rw [hR1]; exact over_size _ _ _ hf1
  have hf2 : (i + m) * 2 + D.length ≤ R1.size := by rw [hDl, hR1s, hRs, ← Nat.add_mul]; exact Nat.mul_le_mul_right _ (by omega)
  obtain ⟨R2, hR2⟩ : ∃ R2, R2 = over R1 ((i + m) * 2) D := ⟨_, rfl⟩
  have hR2s : R2.size = ROW.size := by rw [hR2, over_size _ _ _ hf2]; exact hR1s
  have hcpA : ∀ (W : World), W.heap = W1.heap → ∀ ty dc, (Builtin.copy_ #[27, 27] ty #[.slice (some ⟨N, (i) * 2, none⟩) (n + m - i) dc, .slice (some ⟨vb, 0, none⟩) m m]).run Tryz.prog W = .ok (goInt m) (W.setRow N R1) := fun W hW ty dc => by
    have hbn : Blk W N 52 ROW := by unfold Blk; rw [hW]; exact hBN
    have hbv : Blk W vb 52 el.toArray := by unfold Blk; rw [hW]; exact hv1
    have e := run_copyS (P := Tryz.prog) W 27 27 ty 52 2 N (i * 2) (n + m - i) dc ⟨vb, 0, none⟩ m m ROW 52 el Tryz.underlying27 hsz hbn
      (by rw [hel]; congr 1; simp only [Nat.min_def]; split <;> omega) (fun j u hu => by rw [addr_at, Nat.zero_add, hbv.cell]; simpa using hu) hf1 h1e
    rw [show Nat.min m (n + m - i) = m by simp only [Nat.min_def]; split <;> omega, ← hR1] at e
    simpa only [Nat.mul_one] using e
  have hcpB : ∀ (W : World), W.heap = (W1.setRow N R1).heap → ∀ ty dc sc, (Builtin.copy_ #[27, 27] ty #[.slice (some ⟨N, (i + m) * 2, none⟩) (n + m - (i + m)) dc, .slice (some ⟨g, (i) * 2, none⟩) (n - i) sc]).run Tryz.prog W = .ok (goInt ((n - i : Nat) : Int)) (W.setRow N R2) := fun W hW ty dc sc => by
    have hbn : Blk W N 52 R1 := by unfold Blk; rw [hW]; exact hBN.row R1
    have hbg : Blk W g 52 cur := by unfold Blk; rw [hW]; exact hB1.keep ((Keep.refl [N] W1).setRow (by simp) R1) (by simp; omega)
    have e := run_copyS (P := Tryz.prog) W 27 27 ty 52 2 N ((i + m) * 2) (n + m - (i + m)) dc ⟨g, i * 2, none⟩ (n - i) sc R1 52 D Tryz.underlying27 hsz hbn
      (by rw [hDl]; congr 1; simp only [Nat.min_def]; split <;> omega) (fun j u hu => by
        rw [addr_at, hbg.cell]
        rw [hD, List.getElem?_drop] at hu
        have := hcc _ u hu
        rwa [hB.cell] at this) hf2 (fun u hu => h1 u (by rw [hD] at hu; exact List.mem_of_mem_drop hu))
    rw [show Nat.min (n - i) (n + m - (i + m)) = n - i by simp only [Nat.min_def]; split <;> omega, ← hR2] at e
    simpa only [Nat.mul_one] using e
  have hG63 : G ≤ 9223372036854775807 := by unfold maxLen at hcgm; omega
  have hGi : ¬ (G = i) := by omega
  have hGim : ¬ (G = i + m) := by omega
  have hci : ¬ (cap = i) := by omega
  have hw1 : IntKind.i64.wrap ((i : Int) + (m : Int)) = (i : Int) + (m : Int) := IntWalk.i64_in _ (by omega)
  have hb1 : (0 : Int) ≤ (i : Int) + (m : Int) := by omega
  have hin : i ≤ n := by omega
  have htn : ((i : Int) + (m : Int)).toNat = i + m := by omega
  have hb3 : (i : Int) ≤ (n : Int) := by omega
  have HBe : Below w.heap.size w W1 := by rw [hW1]; exact ((Below.refl _ w).drew).alloc (Nat.le_refl _) _
  have HN := Lib.hid hN
  have HD := Lib.hid hD
  have HL := Lib.hid hlen
  have HR1 := Lib.hid hR1
  have HR2 := Lib.hid hR2
  have HRS := Lib.hid hRs
  have HRT := Lib.hid hRt
  have HE := Lib.hid hel
  have HDL := Lib.hid hDl
  have hE1 : ((w.alloc (.cells ROW 52)).drew).heap = W1.heap := by rw [hW1]; rfl
  have hE2 : (((w.alloc (.cells ROW 52)).drew.setRow N R1).drew).heap = (W1.setRow N R1).heap := by rw [hW1]; rfl
  have hE3 : (((w.alloc (.cells ROW 52)).drew.setRow N R1).drew.setRow N R2).heap = ((W1.setRow N R1).setRow N R2).heap := by rw [hW1]; rfl
  have HW1 := Lib.hid hW1
  rw [hW1] at hcpA hcpB hE1 hE2
  have HE3 := Lib.hid hE3
  clear hkk hik hold hROW hRt hRs hN hD hlen hR1 hR2 hel hDl hW1 hv1 hB1 hB hv ht hs h hcc hsz hE3
  have mixed : Tryz.prog.follows .mixedOrders = true := by kernel_rfl
  go_enter Tryz.func102, Tryz.ntmps102
  go_wp2_with (first
    | (at_builtin; refine Lib.wpList_append_run _ rfl _ _ _ _ rfl _ _ rfl rfl _ _ (hrz _) ?_)
    | (refine wpList_copyR _ rfl _ _ 27 27 rfl _ _ rfl rfl (hcpA _ hE1 _ _) ?_))
  go_region_law_o (refine step_copyR rfl _ _ 27 27 rfl (.slice (some ⟨N, (i + m) * 2, none⟩) (n + m - (i + m)) (G - (i + m))) (.slice (some ⟨g, (i) * 2, none⟩) (n - i) (cap - i)) (by simp [Act.eval, Act.put]) (by simp [Act.eval, Act.put]) (hcpB _ hE2 3 (G - (i + m)) (cap - i)) ?_)
  go_wp2_with fail
  go_ret
  refine ⟨.slice (some ⟨N, 0, none⟩) (n + m) G, rfl, ⟨?_, .inr ⟨N, G, R2, rfl, hbase, ?_, hcg, hcgm, by rw [hR2s, HRS.out], ?_⟩⟩, .inr (by rw [← HN.out]; rfl), Keep.of_below (below_setRow ((below_setRow (((Below.refl w.heap.size w).alloc (Nat.le_refl _) _).drew) (by rw [HN.out]; exact Nat.le_refl _) _).drew) (by rw [HN.out]; exact Nat.le_refl _) _)⟩
  · rw [List.length_append, List.length_append, List.length_take, List.length_drop, HL.out, HE.out]; omega
  · have hb : Blk ((W1.setRow N R1).setRow N R2) N 52 R2 := (hBN.row R1).row R2
    unfold Blk at hb
    rw [← HE3.out] at hb
    exact hb
  · have e1 : R2.toList.take ((n + m) * 2) = R1.toList.take ((i + m) * 2) ++ D := by
      rw [HR2.out]; exact over_take _ _ _ _ (by rw [HDL.out, ← Nat.add_mul]; congr 1; omega) (by rw [hR1s, HRS.out]; exact Nat.mul_le_mul_right _ (by omega))
    have e2 : R1.toList.take ((i + m) * 2) = ROW.toList.take (i * 2) ++ el := by
      rw [HR1.out]; exact over_take _ _ _ _ (by rw [HE.out, ← Nat.add_mul]) (by rw [HRS.out]; exact Nat.mul_le_mul_right _ (by omega))
    rw [e1, e2, HRT.out, HD.out, List.append_assoc]
set_option maxRecDepth 100000 in
set_option maxHeartbeats 4000000 in
theorem ins_pairs_end (base n m vb : Nat) (v : Value) (cs el : List Value) (w : World) (h : w.ownsRow base 52 2 v n cs) (hm : 0 < m) (hn : n + m ≤ 1000) (h1e : ∀ u ∈ el, u.oneCell' = true)
    (hv : Blk w vb 52 el.toArray) (hel : el.length = m * 2) (hbase : base ≤ w.heap.size) :
    Calls Tryz.prog 102 #[v, .int .i64 n, .slice (some ⟨vb, 0, none⟩) m m] w (InsPost27 base n n m v cs el w) := by
  obtain ⟨i0, hI, hz0, hz1, hz2⟩ := info_parts info33
  have hq1 : ¬ ((m : Int) = 0) := by omega
  have hlen := Lib.hid h.1
  have hge := own_ge h
  obtain ⟨A, cap, hvv, hcap⟩ : ∃ A cap, v = .slice A n cap ∧ n ≤ cap := by
    rcases h.2 with ⟨h1, h2⟩ | ⟨g, cap, cur, h1, _, _, h3, _⟩
    · exact ⟨none, 0, by rw [h1, h2], by omega⟩
    · exact ⟨_, cap, h1, h3⟩
  have hcv : ∀ j u, el[j]? = some u → w.cell? ((⟨vb, 0, none⟩ : Addr).add j) = some u := fun j u hu => by rw [addr_at, Nat.zero_add, hv.cell]; simpa using hu
  subst hvv
  clear hv
  by_cases hcn : cap = n
  · subst hcn
    go_enter Tryz.func102, Tryz.ntmps102
    go_wp2_with (at_builtin; refine wpList_append_own_at _ rfl _ _ 27 rfl base 52 i0 _ 2 32 Tryz.underlying27 hI hz0 hz1 hz2 zsz_pairs (by decide) (.slice A cap cap) cap cs rfl h ⟨vb, 0, none⟩ m m el rfl hel hcv h1e (by unfold maxLen; omega) (by omega) hbase ?_; intro v' wa hown' hgrow hnil hat)
    go_ret
    refine ⟨v', rfl, ?_, hat, ⟨⟨hgrow.os, hgrow.tape, hgrow.output, hgrow.size, fun i hi => by omega⟩, fun i hi hx => hgrow.block i hi (fun e => hx (by rw [← e]; simp))⟩⟩
    rw [List.take_of_length_le (by rw [hlen.out]; exact Nat.le_refl _), List.drop_of_length_le (by rw [hlen.out]; exact Nat.le_refl _), List.append_nil]
    exact hown'
  · go_enter Tryz.func102, Tryz.ntmps102
    go_wp2_with (at_builtin; refine wpList_append_own_at _ rfl _ _ 27 rfl base 52 i0 _ 2 32 Tryz.underlying27 hI hz0 hz1 hz2 zsz_pairs (by decide) (.slice A n cap) n cs rfl h ⟨vb, 0, none⟩ m m el rfl hel hcv h1e (by unfold maxLen; omega) (by omega) hbase ?_; intro v' wa hown' hgrow hnil hat)
    go_ret
    refine ⟨v', rfl, ?_, hat, ⟨⟨hgrow.os, hgrow.tape, hgrow.output, hgrow.size, fun i hi => by omega⟩, fun i hi hx => hgrow.block i hi (fun e => hx (by rw [← e]; simp))⟩⟩
    rw [List.take_of_length_le (by rw [hlen.out]; exact Nat.le_refl _), List.drop_of_length_le (by rw [hlen.out]; exact Nat.le_refl _), List.append_nil]
    exact hown'
theorem ins_pairs (base i n m vb : Nat) (v : Value) (cs el : List Value) (w : World) (h : w.ownsRow base 52 2 v n cs) (hi : i ≤ n) (hm : 0 < m) (hn : n + m ≤ 1000) (h1 : ∀ u ∈ cs, u.oneCell' = true) (h1e : ∀ u ∈ el, u.oneCell' = true)
    (hv : Blk w vb 52 el.toArray) (hel : el.length = m * 2) (hbase : base ≤ w.heap.size) (hne : v.ownBlock ≠ some vb) :
    Calls Tryz.prog 102 #[v, .int .i64 i, .slice (some ⟨vb, 0, none⟩) m m] w (InsPost27 base i n m v cs el w) := by
  rcases Nat.lt_or_eq_of_le hi with hlt | rfl
  · obtain ⟨g, cap, cur, hvv, hg, hB, hc, hcm, hs, ht⟩ := own_blk h (by omega)
    rcases Nat.lt_or_ge cap (n + m) with hr | hr
    · exact ins_pairs_grow base i n m vb v cs el w h hlt hm hn h1 h1e hv hel hbase g cap hvv hr
    · exact ins_pairs_shift base i n m vb v cs el w h hlt hm hn h1 h1e hv hel hne g cap hvv hr
  · exact ins_pairs_end base i m vb v cs el w h hm hn h1e hv hel hbase

/-- what slices.Insert leaves -/
def InsPost39 (base i n m : Nat) (v : Value) (cs el : List Value) (w : World) (e : Ending) (w' : World) : Prop :=
  ∃ v', e = .returned v' ∧ w'.ownsRow base 29 1 v' (n + m) (cs.take (i * 1) ++ (el ++ cs.drop (i * 1))) ∧ (v'.ownBlock = v.ownBlock ∨ v'.ownBlock = some w.heap.size) ∧ Keep v.ownBlock.toList w w'
set_option maxRecDepth 100000 in
set_option maxHeartbeats 4000000 in
theorem ins_kids_shift (base i n m vb : Nat) (v : Value) (cs el : List Value) (w : World) (h : w.ownsRow base 29 1 v n cs) (hi : i < n) (hm : 0 < m) (hn : n + m ≤ 1000) (h1 : ∀ u ∈ cs, u.oneCell' = true) (h1e : ∀ u ∈ el, u.oneCell' = true)
    (hv : Blk w vb 29 el.toArray) (hel : el.length = m * 1) (hne : v.ownBlock ≠ some vb) (g cap : Nat) (hvv : v = .slice (some ⟨g, 0, none⟩) n cap) (hroom : n + m ≤ cap) :
    Calls Tryz.prog 105 #[v, .int .i64 i, .slice (some ⟨vb, 0, none⟩) m m] w (InsPost39 base i n m v cs el w) := by
  obtain ⟨i0, hI, hz0, hz1, hz2⟩ := info_parts info39
  have hlen := h.1
  obtain ⟨g', cap', cur, hv', hg, hB, hc, hcm, hs, ht⟩ := own_blk h (by omega)
  subst hvv
  simp only [Value.slice.injEq, Option.some.injEq, Addr.mk.injEq, and_true, true_and] at hv'
  obtain ⟨rfl, rfl⟩ := hv'
  have hvg : vb ≠ g := fun e => hne (by rw [e]; rfl)
  have hmx : cap ≤ 9223372036854775807 := by unfold maxLen at hcm; omega
  have hsz : (Tryz.prog.info? 29).map (·.size) = some 1 := by rw [hI]; simp [hz1]
  have hsz' : ∀ w, (Go.sizeOf 29).run Tryz.prog w = .ok 1 w := fun w => by simp [sizeOf, typeInfo, hI, hz1]
  have hq1 : ¬ ((m : Int) = 0) := by omega
  have hq2 : ¬ ((i : Int) = (n : Int)) := by omega
  have hov : ∀ lb cb, (callFunc 120 #[.slice (some ⟨vb, 0, none⟩) m m, .slice (some ⟨g, (i + m), none⟩) lb cb]).run Tryz.prog w = .ok (.value (.bool false)) w := fun lb cb => by
    have hshv : w.shape? vb = some (29, el.toArray.size) := by have h' := hv; unfold Blk at h'; simp [World.shape?, h']
    have hshg : w.shape? g = some (29, cur.size) := by have h' := hB; unfold Blk at h'; simp [World.shape?, h']
    rw [run_callFunc_extern Tryz.func120 (by kernel_rfl) (by kernel_rfl) (by kernel_rfl) (e := Extern.SlicesOverlaps.overlaps #[96, 96] #[4]) (by kernel_rfl),
      Lib.run_overlaps_apart w 96 4 29 Tryz.underlying96 1 hsz' ⟨vb, 0, none⟩ ⟨g, (i + m), none⟩ m m lb cb hvg _ _ _ _ hshv hshg (by rw [hs]; omega) (hv.frozen _) (hv.frozen _)]
    rfl
  obtain ⟨D, hD⟩ : ∃ D, D = cs.drop (i * 1) := ⟨_, rfl⟩
  have hDl : D.length = (n - i) * 1 := by rw [hD, List.length_drop, hlen, Nat.sub_mul]
  have hDc : ∀ j u, D[j]? = some u → w.cell? ⟨g, i * 1 + j, none⟩ = some u := fun j u hu => by
    rw [hD, List.getElem?_drop, ← ht, List.getElem?_take] at hu
    split at hu
    · rw [hB.cell]; rwa [Array.getElem?_toList] at hu
    · cases hu
  have hf1 : (i + m) * 1 + D.length ≤ cur.size := by rw [hDl, hs, ← Nat.add_mul]; exact Nat.mul_le_mul_right _ (by omega)
  obtain ⟨R1, hR1⟩ : ∃ R1, R1 = over cur ((i + m) * 1) D := ⟨_, rfl⟩
  have hR1s : R1.size = cur.size := by rw [hR1]; exact over_size _ _ _ hf1
  have hcp1 : ∀ ty dc sc, (Builtin.copy_ #[96, 96] ty #[.slice (some ⟨g, (i + m), none⟩) (n + m - (i + m)) dc, .slice (some ⟨g, (i), none⟩) (n + m - i) sc]).run Tryz.prog w.drew = .ok (goInt ((n - i : Nat) : Int)) (w.drew.setRow g R1) := fun ty dc sc => by
    have e := run_copyS (P := Tryz.prog) w.drew 96 96 ty 29 1 g ((i + m) * 1) (n + m - (i + m)) dc ⟨g, i * 1, none⟩ (n + m - i) sc cur 29 D Tryz.underlying96 hsz hB
      (by rw [hDl]; congr 1; simp only [Nat.min_def]; split <;> omega) (fun j u hu => by rw [addr_at]; exact hDc j u hu) hf1 (fun u hu => h1 u (by rw [hD] at hu; exact List.mem_of_mem_drop hu))
    rw [show Nat.min (n + m - i) (n + m - (i + m)) = n - i by simp only [Nat.min_def]; split <;> omega, ← hR1] at e
    simpa only [Nat.mul_one] using e
  have hB1 : Blk (w.drew.setRow g R1) g 29 R1 := Blk.row (w := w.drew) hB _
  have hK1 : Keep [g] w (w.drew.setRow g R1) := (Keep.refl [g] w).drew.setRow (by simp) _
  have hv1 : Blk (w.drew.setRow g R1) vb 29 el.toArray := hv.keep hK1 (by simpa using hvg)
  have hf2 : i * 1 + el.length ≤ R1.size := by rw [hel, hR1s, hs, ← Nat.add_mul]; exact Nat.mul_le_mul_right _ (by omega)
  obtain ⟨R2, hR2⟩ : ∃ R2, R2 = over R1 (i * 1) el := ⟨_, rfl⟩
  have hR2s : R2.size = cur.size := by rw [hR2, over_size _ _ _ hf2]; exact hR1s
  obtain ⟨W1, hW1⟩ : ∃ W1, W1 = w.drew.setRow g R1 := ⟨_, rfl⟩
  rw [← hW1] at hB1 hK1 hv1 hcp1
  have hcp2 : ∀ ty dc, (Builtin.copy_ #[96, 96] ty #[.slice (some ⟨g, (i), none⟩) (n + m - i) dc, .slice (some ⟨vb, 0, none⟩) m m]).run Tryz.prog W1 = .ok (goInt m) (W1.setRow g R2) := fun ty dc => by
    have e := run_copyS (P := Tryz.prog) W1 96 96 ty 29 1 g (i * 1) (n + m - i) dc ⟨vb, 0, none⟩ m m R1 29 el Tryz.underlying96 hsz hB1
      (by rw [hel]; congr 1; simp only [Nat.min_def]; split <;> omega) (fun j u hu => by rw [addr_at, Nat.zero_add, hv1.cell]; simpa using hu) hf2 h1e
    rw [show Nat.min m (n + m - i) = m by simp only [Nat.min_def]; split <;> omega, ← hR2] at e
    simpa only [Nat.mul_one] using e
  have hw1 : IntKind.i64.wrap ((i : Int) + (m : Int)) = (i : Int) + (m : Int) := IntWalk.i64_in _ (by omega)
  have hb1 : (0 : Int) ≤ (i : Int) + (m : Int) := by omega
  have hin : i ≤ n := by omega
  have htn : ((i : Int) + (m : Int)).toNat = i + m := by omega
  have hb2 : ¬ (cap = i + m) := by omega
  have hb3 : (i : Int) ≤ (n : Int) + (m : Int) := by omega
  have hb4 : ¬ (cap = i) := by omega
  have HT := Lib.hid ht
  have HD := Lib.hid hD
  have HL := Lib.hid hlen
  have HR1 := Lib.hid hR1
  have HR2 := Lib.hid hR2
  have HS := Lib.hid hs
  have HE := Lib.hid hel
  have HDL := Lib.hid hDl
  clear hW1 hR1 hR2 hD ht hlen hsz hsz' hDc hs hB hv hv1 h hne hel hDl
  have mixed : Tryz.prog.follows .mixedOrders = true := by kernel_rfl
  go_enter Tryz.func105, Tryz.ntmps105
  go_wp2_with (simp only [hov])
  go_region_law_o (refine step_copyR rfl _ _ 96 96 rfl _ _ (by simp [Act.eval, Act.put]) (by simp [Act.eval, Act.put]) (hcp1 _ _ _) ?_)
  go_wp2_with (refine wpList_copyR _ rfl _ _ 96 96 rfl _ _ rfl rfl (hcp2 _ _) ?_)
  go_ret
  refine ⟨.slice (some ⟨g, 0, none⟩) (n + m) cap, rfl, ⟨?_, .inr ⟨g, cap, R2, rfl, hg, hB1.row R2, hroom, hcm, by rw [hR2s, HS.out], ?_⟩⟩, .inl rfl, hK1.setRow (by simp) _⟩
  · rw [List.length_append, List.length_append, List.length_take, List.length_drop, HL.out, HE.out]; omega
  · have e1 : R2.toList.take (i * 1 + el.length) = R1.toList.take (i * 1) ++ el := by rw [HR2.out]; exact over_take _ _ _ _ rfl (by rw [hR1s, HS.out]; omega)
    have e2 : R2.toList.take ((n + m) * 1) = R2.toList.take (i * 1 + el.length) ++ (R2.toList.drop (i * 1 + el.length)).take ((n - i) * 1) := by
      rw [← List.take_add, HE.out]; congr 1; omega
    have e3 : R2.toList.drop (i * 1 + el.length) = R1.toList.drop (i * 1 + el.length) := by rw [HR2.out]; exact over_drop _ _ _ (by omega)
    have e4 : (R1.toList.drop (i * 1 + el.length)).take ((n - i) * 1) = D := by
      rw [HR1.out, HE.out, ← Nat.add_mul]; exact over_mid _ _ _ _ HDL.out.symm (by rw [HDL.out] at hf1; omega)
    have e5 : R1.toList.take (i * 1) = cs.take (i * 1) := by
      rw [HR1.out, over_take_le _ _ _ _ (by omega) (by omega), ← HT.out, List.take_take, show min (i * 1) (n * 1) = i * 1 by omega]
    rw [e2, e3, e4, e1, e5, HD.out, List.append_assoc]
set_option maxRecDepth 100000 in
set_option maxHeartbeats 4000000 in
theorem ins_kids_grow (base i n m vb : Nat) (v : Value) (cs el : List Value) (w : World) (h : w.ownsRow base 29 1 v n cs) (hi : i < n) (hm : 0 < m) (hn : n + m ≤ 1000) (h1 : ∀ u ∈ cs, u.oneCell' = true) (h1e : ∀ u ∈ el, u.oneCell' = true)
    (hv : Blk w vb 29 el.toArray) (hel : el.length = m * 1) (hbase : base ≤ w.heap.size) (g cap : Nat) (hvv : v = .slice (some ⟨g, 0, none⟩) n cap) (hroom : cap < n + m) :
    Calls Tryz.prog 105 #[v, .int .i64 i, .slice (some ⟨vb, 0, none⟩) m m] w (InsPost39 base i n m v cs el w) := by
  obtain ⟨i0, hI, hz0, hz1, hz2⟩ := info_parts info39
  have hlen := h.1
  obtain ⟨g', cap', cur, hv', hg, hB, hc, hcm, hs, ht⟩ := own_blk h (by omega)
  subst hvv
  simp only [Value.slice.injEq, Option.some.injEq, Addr.mk.injEq, and_true, true_and] at hv'
  obtain ⟨rfl, rfl⟩ := hv'
  have hsz : (Tryz.prog.info? 29).map (·.size) = some 1 := by rw [hI]; simp [hz1]
  have hq1 : ¬ ((m : Int) = 0) := by omega
  have hq2 : ¬ ((i : Int) = (n : Int)) := by omega
  have hq3 : (cap : Int) < (n : Int) + (m : Int) := by omega
  have hkk : (n : Int) + (m : Int) - (i : Int) = ((n + m - i : Nat) : Int) := by omega
  have hik : i + (n + m - i) = n + m := by omega
  have hcc : ∀ j u, cs[j]? = some u → w.cell? ⟨g, j, none⟩ = some u := fun j u hu => by
    rw [← ht, List.getElem?_take] at hu
    split at hu
    · rw [hB.cell]; rwa [Array.getElem?_toList] at hu
    · cases hu
  have hold : (Builtin.firstCells i0.size i (.slice (some ⟨g, 0, none⟩) i cap)).run Tryz.prog w.drew = .ok (cs.take (i * 1)).toArray w.drew := by
    rw [hz1]
    refine run_firstCells_some w.drew 1 i ⟨g, 0, none⟩ i cap (cs.take (i * 1)) (by rw [List.length_take, hlen]; omega) (fun j u hj => ?_)
    rw [addr_at, Nat.zero_add]
    rw [List.getElem?_take] at hj
    split at hj
    · exact hcc j u hj
    · cases hj
  have hrz : ∀ ty, (Builtin.append_ #[96, 3] ty #[.slice (some ⟨g, 0, none⟩) i cap, .int .i64 ((n : Int) + (m : Int) - (i : Int))]).run Tryz.prog w =
      .ok (.slice (some ⟨w.heap.size, 0, none⟩) (n + m) (grownCap w (n + m) cap 29)) (w.drew.alloc (.cells ((cs.take (i * 1)).toArray ++ Builtin.zeroCells (Value.cells (.pointer none)) (n + m - i) ++ Builtin.zeroCells (Value.cells (.pointer none)) (grownCap w (n + m) cap 29 - (n + m))) 29)) := fun ty => by
    have h := Lib.run_append_grow_zeros (P := Tryz.prog) w 96 3 ty 29 i0 _ .i64 .i64 Tryz.underlying96 Tryz.underlying3 hI hz0 (some ⟨g, 0, none⟩) i cap (cs.take (i * 1)) hold (n + m - i) (by omega) (by omega) (by omega) (by omega) (by rw [hz2]; omega) (by rw [hz2, hik]; exact growslice_fits hroom (by omega))
    rw [hik] at h
    rw [hkk]
    exact h
  have hcg := grownCap_ge w (n + m) cap 29
  have hcgm := grownCap_le_maxLen w (n + m) cap 29 (by unfold maxLen; omega)
  generalize grownCap w (n + m) cap 29 = G at *
  obtain ⟨ROW, hROW⟩ : ∃ ROW : Array Value, ROW = (cs.take (i * 1)).toArray ++ Builtin.zeroCells (Value.cells (.pointer none)) (n + m - i) ++ Builtin.zeroCells (Value.cells (.pointer none)) (G - (n + m)) := ⟨_, rfl⟩
  rw [← hROW] at hrz
  have hRs : ROW.size = G * 1 := by
    rw [hROW, Array.size_append, Array.size_append, List.size_toArray, List.length_take, hlen]
    simp only [Builtin.zeroCells, Array.size_map, Array.size_range, zsz_kids]
    omega
  have hRt : ROW.toList.take (i * 1) = cs.take (i * 1) := by
    have e : ROW.toList = cs.take (i * 1) ++ ((Builtin.zeroCells (Value.cells (.pointer none)) (n + m - i)).toList ++ (Builtin.zeroCells (Value.cells (.pointer none)) (G - (n + m))).toList) := by rw [hROW]; simp
    rw [e, List.take_append_of_le_length (by rw [List.length_take, hlen]; omega), List.take_take, Nat.min_self]
  obtain ⟨N, hN⟩ : ∃ N, N = w.heap.size := ⟨_, rfl⟩
  rw [← hN] at hrz hbase
  obtain ⟨W1, hW1⟩ : ∃ W1, W1 = w.drew.alloc (.cells ROW 29) := ⟨_, rfl⟩
  have hBN : Blk W1 N 29 ROW := by rw [hW1, hN]; exact Blk.new w.drew 29 ROW
  have hK0 : Keep [N] w W1 := by rw [hW1]; exact (Keep.refl [N] w).drew.alloc _
  have hbl := hB.lt
  have hvl := hv.lt
  have hB1 : Blk W1 g 29 cur := hB.keep hK0 (by simp; omega)
  have hv1 : Blk W1 vb 29 el.toArray := hv.keep hK0 (by simp; omega)
  obtain ⟨D, hD⟩ : ∃ D, D = cs.drop (i * 1) := ⟨_, rfl⟩
  have hDl : D.length = (n - i) * 1 := by rw [hD, List.length_drop, hlen, Nat.sub_mul]
  obtain ⟨R1, hR1⟩ : ∃ R1, R1 = over ROW (i * 1) el := ⟨_, rfl⟩
  have hf1 : i * 1 + el.length ≤ ROW.size := by rw [hel, hRs, ← Nat.add_mul]; exact Nat.mul_le_mul_right _ (by omega)
  have hR1s : R1.size = ROW.size := by rw [hR1]; exact over_size _ _ _ hf1
  have hf2 : (i + m) * 1 + D.length ≤ R1.size := by rw [hDl, hR1s, hRs, ← Nat.add_mul]; exact Nat.mul_le_mul_right _ (by omega)
  obtain ⟨R2, hR2⟩ : ∃ R2, R2 = over R1 ((i + m) * 1) D := ⟨_, rfl⟩
  have hR2s : R2.size = ROW.size := by rw [hR2, over_size _ _ _ hf2]; exact hR1s
  have hcpA : ∀ (W : World), W.heap = W1.heap → ∀ ty dc, (Builtin.copy_ #[96, 96] ty #[.slice (some ⟨N, (i), none⟩) (n + m - i) dc, .slice (some ⟨vb, 0, none⟩) m m]).run Tryz.prog W = .ok (goInt m) (W.setRow N R1) := fun W hW ty dc => by
    have hbn : Blk W N 29 ROW := by unfold Blk; rw [hW]; exact hBN
    have hbv : Blk W vb 29 el.toArray := by unfold Blk; rw [hW]; exact hv1
    have e := run_copyS (P := Tryz.prog) W 96 96 ty 29 1 N (i * 1) (n + m - i) dc ⟨vb, 0, none⟩ m m ROW 29 el Tryz.underlying96 hsz hbn
      (by rw [hel]; congr 1; simp only [Nat.min_def]; split <;> omega) (fun j u hu => by rw [addr_at, Nat.zero_add, hbv.cell]; simpa using hu) hf1 h1e
    rw [show Nat.min m (n + m - i) = m by simp only [Nat.min_def]; split <;> omega, ← hR1] at e
    simpa only [Nat.mul_one] using e
  have hcpB : ∀ (W : World), W.heap = (W1.setRow N R1).heap → ∀ ty dc sc, (Builtin.copy_ #[96, 96] ty #[.slice (some ⟨N, (i + m), none⟩) (n + m - (i + m)) dc, .slice (some ⟨g, (i), none⟩) (n - i) sc]).run Tryz.prog W = .ok (goInt ((n - i : Nat) : Int)) (W.setRow N R2) := fun W hW ty dc sc => by
    have hbn : Blk W N 29 R1 := by unfold Blk; rw [hW]; exact hBN.row R1
    have hbg : Blk W g 29 cur := by unfold Blk; rw [hW]; exact hB1.keep ((Keep.refl [N] W1).setRow (by simp) R1) (by simp; omega)
    have e := run_copyS (P := Tryz.prog) W 96 96 ty 29 1 N ((i + m) * 1) (n + m - (i + m)) dc ⟨g, i * 1, none⟩ (n - i) sc R1 29 D Tryz.underlying96 hsz hbn
      (by rw [hDl]; congr 1; simp only [Nat.min_def]; split <;> omega) (fun j u hu => by
        rw [addr_at, hbg.cell]
        rw [hD, List.getElem?_drop] at hu
        have := hcc _ u hu
        rwa [hB.cell] at this) hf2 (fun u hu => h1 u (by rw [hD] at hu; exact List.mem_of_mem_drop hu))
    rw [show Nat.min (n - i) (n + m - (i + m)) = n - i by simp only [Nat.min_def]; split <;> omega, ← hR2] at e
    simpa only [Nat.mul_one] using e
  have hG63 : G ≤ 9223372036854775807 := by unfold maxLen at hcgm; omega
  have hGi : ¬ (G = i) := by omega
  have hGim : ¬ (G = i + m) := by omega
  have hci : ¬ (cap = i) := by omega
  have hw1 : IntKind.i64.wrap ((i : Int) + (m : Int)) = (i : Int) + (m : Int) := IntWalk.i64_in _ (by omega)
  have hb1 : (0 : Int) ≤ (i : Int) + (m : Int) := by omega
  have hin : i ≤ n := by omega
  have htn : ((i : Int) + (m : Int)).toNat = i + m := by omega
  have hb3 : (i : Int) ≤ (n : Int) := by omega
  have HBe : Below w.heap.size w W1 := by rw [hW1]; exact ((Below.refl _ w).drew).alloc (Nat.le_refl _) _
  have HN := Lib.hid hN
  have HD := Lib.hid hD
  have HL := Lib.hid hlen
  have HR1 := Lib.hid hR1
  have HR2 := Lib.hid hR2
  have HRS := Lib.hid hRs
  have HRT := Lib.hid hRt
  have HE := Lib.hid hel
  have HDL := Lib.hid hDl
  have hE1 : ((w.alloc (.cells ROW 29)).drew).heap = W1.heap := by rw [hW1]; rfl
  have hE2 : (((w.alloc (.cells ROW 29)).drew.setRow N R1).drew).heap = (W1.setRow N R1).heap := by rw [hW1]; rfl
  have hE3 : (((w.alloc (.cells ROW 29)).drew.setRow N R1).drew.setRow N R2).heap = ((W1.setRow N R1).setRow N R2).heap := by rw [hW1]; rfl
  have HW1 := Lib.hid hW1
  rw [hW1] at hcpA hcpB hE1 hE2
  have HE3 := Lib.hid hE3
  clear hkk hik hold hROW hRt hRs hN hD hlen hR1 hR2 hel hDl hW1 hv1 hB1 hB hv ht hs h hcc hsz hE3
  have mixed : Tryz.prog.follows .mixedOrders = true := by kernel_rfl
  go_enter Tryz.func105, Tryz.ntmps105
  go_wp2_with (first
    | (at_builtin; refine Lib.wpList_append_run _ rfl _ _ _ _ rfl _ _ rfl rfl _ _ (hrz _) ?_)
    | (refine wpList_copyR _ rfl _ _ 96 96 rfl _ _ rfl rfl (hcpA _ hE1 _ _) ?_))
  go_region_law_o (refine step_copyR rfl _ _ 96 96 rfl (.slice (some ⟨N, (i + m), none⟩) (n + m - (i + m)) (G - (i + m))) (.slice (some ⟨g, (i), none⟩) (n - i) (cap - i)) (by simp [Act.eval, Act.put]) (by simp [Act.eval, Act.put]) (hcpB _ hE2 3 (G - (i + m)) (cap - i)) ?_)
  go_wp2_with fail
  go_ret
  refine ⟨.slice (some ⟨N, 0, none⟩) (n + m) G, rfl, ⟨?_, .inr ⟨N, G, R2, rfl, hbase, ?_, hcg, hcgm, by rw [hR2s, HRS.out], ?_⟩⟩, .inr (by rw [← HN.out]; rfl), Keep.of_below (below_setRow ((below_setRow (((Below.refl w.heap.size w).alloc (Nat.le_refl _) _).drew) (by rw [HN.out]; exact Nat.le_refl _) _).drew) (by rw [HN.out]; exact Nat.le_refl _) _)⟩
  · rw [List.length_append, List.length_append, List.length_take, List.length_drop, HL.out, HE.out]; omega
  · have hb : Blk ((W1.setRow N R1).setRow N R2) N 29 R2 := (hBN.row R1).row R2
    unfold Blk at hb
    rw [← HE3.out] at hb
    exact hb
  · have e1 : R2.toList.take ((n + m) * 1) = R1.toList.take ((i + m) * 1) ++ D := by
      rw [HR2.out]; exact over_take _ _ _ _ (by rw [HDL.out, ← Nat.add_mul]; congr 1; omega) (by rw [hR1s, HRS.out]; exact Nat.mul_le_mul_right _ (by omega))
    have e2 : R1.toList.take ((i + m) * 1) = ROW.toList.take (i * 1) ++ el := by
      rw [HR1.out]; exact over_take _ _ _ _ (by rw [HE.out, ← Nat.add_mul]) (by rw [HRS.out]; exact Nat.mul_le_mul_right _ (by omega))
    rw [e1, e2, HRT.out, HD.out, List.append_assoc]
set_option maxRecDepth 100000 in
set_option maxHeartbeats 4000000 in
theorem ins_kids_end (base n m vb : Nat) (v : Value) (cs el : List Value) (w : World) (h : w.ownsRow base 29 1 v n cs) (hm : 0 < m) (hn : n + m ≤ 1000) (h1e : ∀ u ∈ el, u.oneCell' = true)
    (hv : Blk w vb 29 el.toArray) (hel : el.length = m * 1) (hbase : base ≤ w.heap.size) :
    Calls Tryz.prog 105 #[v, .int .i64 n, .slice (some ⟨vb, 0, none⟩) m m] w (InsPost39 base n n m v cs el w) := by
  obtain ⟨i0, hI, hz0, hz1, hz2⟩ := info_parts info39
  have hq1 : ¬ ((m : Int) = 0) := by omega
  have hlen := Lib.hid h.1
  have hge := own_ge h
  obtain ⟨A, cap, hvv, hcap⟩ : ∃ A cap, v = .slice A n cap ∧ n ≤ cap := by
    rcases h.2 with ⟨h1, h2⟩ | ⟨g, cap, cur, h1, _, _, h3, _⟩
    · exact ⟨none, 0, by rw [h1, h2], by omega⟩
    · exact ⟨_, cap, h1, h3⟩
  have hcv : ∀ j u, el[j]? = some u → w.cell? ((⟨vb, 0, none⟩ : Addr).add j) = some u := fun j u hu => by rw [addr_at, Nat.zero_add, hv.cell]; simpa using hu
  subst hvv
  clear hv
  by_cases hcn : cap = n
  · subst hcn
    go_enter Tryz.func105, Tryz.ntmps105
    go_wp2_with (at_builtin; refine wpList_append_own_at _ rfl _ _ 96 rfl base 29 i0 _ 1 8 Tryz.underlying96 hI hz0 hz1 hz2 zsz_kids (by decide) (.slice A cap cap) cap cs rfl h ⟨vb, 0, none⟩ m m el rfl hel hcv h1e (by unfold maxLen; omega) (by omega) hbase ?_; intro v' wa hown' hgrow hnil hat)
    go_ret
    refine ⟨v', rfl, ?_, hat, ⟨⟨hgrow.os, hgrow.tape, hgrow.output, hgrow.size, fun i hi => by omega⟩, fun i hi hx => hgrow.block i hi (fun e => hx (by rw [← e]; simp))⟩⟩
    rw [List.take_of_length_le (by rw [hlen.out]; exact Nat.le_refl _), List.drop_of_length_le (by rw [hlen.out]; exact Nat.le_refl _), List.append_nil]
    exact hown'
  · go_enter Tryz.func105, Tryz.ntmps105
    go_wp2_with (at_builtin; refine wpList_append_own_at _ rfl _ _ 96 rfl base 29 i0 _ 1 8 Tryz.underlying96 hI hz0 hz1 hz2 zsz_kids (by decide) (.slice A n cap) n cs rfl h ⟨vb, 0, none⟩ m m el rfl hel hcv h1e (by unfold maxLen; omega) (by omega) hbase ?_; intro v' wa hown' hgrow hnil hat)
    go_ret
    refine ⟨v', rfl, ?_, hat, ⟨⟨hgrow.os, hgrow.tape, hgrow.output, hgrow.size, fun i hi => by omega⟩, fun i hi hx => hgrow.block i hi (fun e => hx (by rw [← e]; simp))⟩⟩
    rw [List.take_of_length_le (by rw [hlen.out]; exact Nat.le_refl _), List.drop_of_length_le (by rw [hlen.out]; exact Nat.le_refl _), List.append_nil]
    exact hown'
theorem ins_kids (base i n m vb : Nat) (v : Value) (cs el : List Value) (w : World) (h : w.ownsRow base 29 1 v n cs) (hi : i ≤ n) (hm : 0 < m) (hn : n + m ≤ 1000) (h1 : ∀ u ∈ cs, u.oneCell' = true) (h1e : ∀ u ∈ el, u.oneCell' = true)
    (hv : Blk w vb 29 el.toArray) (hel : el.length = m * 1) (hbase : base ≤ w.heap.size) (hne : v.ownBlock ≠ some vb) :
    Calls Tryz.prog 105 #[v, .int .i64 i, .slice (some ⟨vb, 0, none⟩) m m] w (InsPost39 base i n m v cs el w) := by
  rcases Nat.lt_or_eq_of_le hi with hlt | rfl
  · obtain ⟨g, cap, cur, hvv, hg, hB, hc, hcm, hs, ht⟩ := own_blk h (by omega)
    rcases Nat.lt_or_ge cap (n + m) with hr | hr
    · exact ins_kids_grow base i n m vb v cs el w h hlt hm hn h1 h1e hv hel hbase g cap hvv hr
    · exact ins_kids_shift base i n m vb v cs el w h hlt hm hn h1 h1e hv hel hne g cap hvv hr
  · exact ins_kids_end base i m vb v cs el w h hm hn h1e hv hel hbase
end Go.Proofs.YtchimfgbdfmegaaGreat
