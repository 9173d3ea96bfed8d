/- slices.Delete of one element. -/
import Derived.Test.YtgldgdpgbfejmaaNa
import Derived.Test.YtgldgdpgbfejmaaPc
import Derived.Shelf.RegionOpenPlain
namespace Go.Proofs.Ytgldgdpgbfejmaa
open Go.RowKit Go.Lib
set_option linter.unusedVariables false
set_option linter.unusedSimpArgs false
theorem zc_pairs : (Builtin.zeroCells (Value.cells (.agg #[.string ByteArray.empty, .string ByteArray.empty])) 1).toList = [.string ByteArray.empty, .string ByteArray.empty] := by
  have e : Value.cells (.agg #[.string ByteArray.empty, .string ByteArray.empty]) = #[.string ByteArray.empty, .string ByteArray.empty] := by simp [Value.cells]
  rw [e]
  apply List.ext_getElem
  · simp [Builtin.zeroCells]
  · intro k h1 h2
    simp [Builtin.zeroCells] at h1
    match k, h1 with
    | 0, _ => simp [Builtin.zeroCells]
    | 1, _ => simp [Builtin.zeroCells]
theorem zc_kids : (Builtin.zeroCells (Value.cells (.pointer none)) 1).toList = [.pointer none] := by
  have e : Value.cells (.pointer none) = #[.pointer none] := by simp [Value.cells]
  rw [e]
  apply List.ext_getElem
  · simp [Builtin.zeroCells]
  · intro k h1 h2
    simp [Builtin.zeroCells] at h1
    match k, h1 with
    | 0, _ => simp [Builtin.zeroCells]
theorem over_take (X : Array Value) (o : Nat) (vs : List Value) (k : Nat) (h : o + vs.length = k) (ho : o ≤ X.size) : (over X o vs).toList.take k = X.toList.take o ++ vs := by
  unfold over splice
  rw [List.take_append, List.take_append, List.take_of_length_le (by simp; omega), List.take_of_length_le (l := vs) (by simp; omega), List.length_take, Array.length_toList, show min o X.size = o by omega, show k - o - vs.length = 0 by omega, List.take_zero, List.append_nil]
theorem over_take_le (X : Array Value) (o : Nat) (vs : List Value) (k : Nat) (h : k ≤ o) (ho : o ≤ X.size) : (over X o vs).toList.take k = X.toList.take k := by
  unfold over splice
  rw [List.take_append_of_le_length (by simp; omega), List.take_take, show min k o = k by omega]
theorem info39 : (Try.prog.info? 39).map (fun i => (i.zero, i.size, i.bytes)) = some (some (.pointer none), 1, 8) := by kernel_rfl

set_option maxRecDepth 100000 in
set_option maxHeartbeats 4000000 in
theorem del_kids (base i j n : Nat) (v : Value) (cs : List Value) (w : World) (h : w.ownsRow base 39 1 v n cs) (hi : i < n) (hij : Hid (j = i + 1)) (hn : n ≤ 1000) (h1 : ∀ u ∈ cs, u.oneCell' = true) :
    Calls Try.prog 75 #[v, .int .i64 i, .int .i64 j] w fun e w' => ∃ g cap, v = .slice (some ⟨g, 0, none⟩) n cap ∧ e = .returned (.slice (some ⟨g, 0, none⟩) (n - 1) cap) ∧ w'.ownsRow base 39 1 (.slice (some ⟨g, 0, none⟩) (n - 1) cap) (n - 1) (cs.take (i * 1) ++ cs.drop ((i + 1) * 1)) ∧ Keep [g] w w' := by
  obtain ⟨i0, hI, hz0, hz1, hz2⟩ := info_parts info39
  have hlen := h.1
  obtain ⟨g, cap, cur, rfl, hg, hB, hc, hcm, hs, ht⟩ := own_blk h (by omega)
  have hmx : cap ≤ 9223372036854775807 := by unfold maxLen at hcm; omega
  have hv23 : ∀ w, (zeroValue 39).run Try.prog w = .ok (.pointer none) w := fun w => by simp [zeroValue, typeInfo, hI, hz0]
  obtain ⟨m, hm⟩ : ∃ m, m = n - j := ⟨_, rfl⟩
  have hji := hij.out
  -- the cells that move
  obtain ⟨news, hnews⟩ : ∃ news, news = cs.drop (j * 1) := ⟨_, rfl⟩
  have hnl : news.length = m * 1 := by rw [hnews, List.length_drop, hlen, hm, Nat.sub_mul]
  have hcell : ∀ t u, news[t]? = some u → w.cell? ⟨g, j * 1 + t, none⟩ = some u := fun t u hu => by
    rw [hnews, List.getElem?_drop, ← ht, List.getElem?_take] at hu
    split at hu
    · rw [hB.cell]; rwa [Array.getElem?_toList] at hu
    · cases hu
  obtain ⟨A, hA, hsrc⟩ : ∃ A : Addr, (if cap = j then some (⟨g, 0, none⟩ : Addr) else some ⟨g, j * 1, none⟩) = some A ∧ Hid (∀ t u, news[t]? = some u → w.drew.cell? (A.add t) = some u) := by
    by_cases hcj : cap = j
    · refine ⟨⟨g, 0, none⟩, by simp [hcj], Lib.hid fun t u hu => ?_⟩
      have h0 : news.length = 0 := by rw [hnl, hm, show n - j = 0 by omega, Nat.zero_mul]
      rw [List.length_eq_zero_iff.1 h0] at hu
      simp at hu
    · refine ⟨⟨g, j * 1, none⟩, by simp [hcj], Lib.hid fun t u hu => ?_⟩
      rw [addr_at]
      exact hcell t u hu
  have hfit1 : i * 1 + news.length ≤ cur.size := by rw [hnl, hs, ← Nat.add_mul]; exact Nat.mul_le_mul_right _ (by omega)
  have hsp : Hid (∀ t, t < news.length → (w.drew.cell? ⟨g, 0 + i * 1 + t, none⟩).isSome = true ∧ w.drew.frozen? ⟨g, 0 + i * 1 + t, none⟩ = false) := Lib.hid fun t ht => by
    refine ⟨?_, hB.frozen _⟩
    show (w.cell? _).isSome = true
    rw [hB.cell, Nat.zero_add, Array.getElem?_eq_getElem (by omega)]; rfl
  have h1n : Hid (∀ u ∈ news, u.oneCell' = true) := Lib.hid fun u hu => h1 u (by rw [hnews] at hu; exact List.mem_of_mem_drop hu)
  -- the world behind the append
  obtain ⟨W1, hW1⟩ : ∃ W1, W1 = w.drew.setCells g (0 + i * 1) news := ⟨_, rfl⟩
  have hW1r : W1 = w.drew.setRow g (over cur (i * 1) news) := by rw [hW1, Nat.zero_add]; exact setCells_row g 39 news _ cur w.drew hB hfit1
  have hB1 : Blk W1 g 39 (over cur (i * 1) news) := by rw [hW1r]; exact Blk.row (w := w.drew) hB _
  have hK1 : Keep [g] w W1 := by rw [hW1r]; exact (Keep.refl [g] w).drew.setRow (by simp) _
  obtain ⟨zs, hzs⟩ : ∃ zs, zs = (Builtin.zeroCells (Value.cells (.pointer none)) 1).toList := ⟨_, rfl⟩
  have hzl : zs.length = 1 := by rw [hzs, zc_kids]; rfl
  have hos := over_size cur (i * 1) news hfit1
  have hfit2 : (i + m) * 1 + zs.length ≤ (over cur (i * 1) news).size := by rw [hos, hzl, hs]; omega
  obtain ⟨R2, hR2⟩ : ∃ R2, R2 = over (over cur (i * 1) news) ((i + m) * 1) zs := ⟨_, rfl⟩
  have hcl : ∀ ty c, (Builtin.clear_ #[31] ty #[.slice (some ⟨g, i + m, none⟩) 1 c]).run Try.prog W1 = .ok (.tuple #[]) (W1.setRow g R2) := fun ty c => by
    have ea : (⟨g, i + m, none⟩ : Addr) = ⟨g, (i + m) * 1, none⟩ := by rw [Nat.mul_one]
    rw [ea]
    rw [hR2, hzs]
    exact run_clearS W1 31 39 ty _ Try.underlying31 hv23 g _ 1 c _ 39 hB1 (by decide) (by intro u hu; rw [zc_kids] at hu; simp at hu; subst hu; rfl) (by rw [← hzs]; exact hfit2)
  have HW1 := Lib.hid hW1
  have e1 : n - (i + m) = 1 := by omega
  have e2 : i + (n - j) = i + m := by omega
  have hic : i ≤ cap := by omega
  have hjc : j ≤ cap := by omega
  have hjn : j ≤ n := by omega
  have hne : ¬ ((i : Int) = (j : Int)) := by omega
  have HT := Lib.hid ht
  have HR2 := Lib.hid hR2
  have HN := Lib.hid hnews
  have HL := Lib.hid hlen
  clear hW1 hW1r hcell hji hnews hv23 hlen hzs hB ht hR2
  have mixed : Try.prog.follows .mixedOrders = true := by kernel_rfl
  simp only [Nat.mul_one] at hA
  go_enter Try.func75, Try.ntmps75
  go_wp2_with fail
  go_region_law_o (refine step_append_room rfl (.tmp 22) (.tmp 25) 31 rfl 39 i0 1 Try.underlying31 hI hz1 g 0 i cap (by simp [Act.eval, Act.put]) A (n - j) (cap - j) news (by simp [Act.eval, Act.put, hA]) (by rw [hnl, hm]) hsrc.out h1n.out (by omega) hsp.out ?_; rw [← HW1.out])
  clear hsrc hsp h1n HW1 hA
  go_wp2_with fail
  go_ret
  refine ⟨g, cap, rfl, by rw [show n - 1 = i + m by omega]; rfl, ?_, hK1.setRow (by simp) _⟩
  have hj2 := hij.out
  refine ⟨?_, .inr ⟨g, cap, _, rfl, hg, hB1.row _, by omega, hcm, by rw [HR2.out, over_size _ _ _ hfit2, hos, hs], ?_⟩⟩
  · rw [List.length_append, List.length_take, List.length_drop, HL.out]; omega
  · rw [HR2.out, show n - 1 = i + m by omega, over_take_le _ _ _ _ (Nat.le_refl _) (by omega), over_take _ _ _ _ (by rw [hnl]; omega) (by omega), ← hj2, ← HN.out, ← HT.out, List.take_take, show min (i * 1) (n * 1) = i * 1 by omega]

set_option maxRecDepth 100000 in
set_option maxHeartbeats 4000000 in
theorem del_pairs (base i j n : Nat) (v : Value) (cs : List Value) (w : World) (h : w.ownsRow base 27 2 v n cs) (hi : i < n) (hij : Hid (j = i + 1)) (hn : n ≤ 1000) (h1 : ∀ u ∈ cs, u.oneCell' = true) :
    Calls Try.prog 62 #[v, .int .i64 i, .int .i64 j] w fun e w' => ∃ g cap, v = .slice (some ⟨g, 0, none⟩) n cap ∧ e = .returned (.slice (some ⟨g, 0, none⟩) (n - 1) cap) ∧ w'.ownsRow base 27 2 (.slice (some ⟨g, 0, none⟩) (n - 1) cap) (n - 1) (cs.take (i * 2) ++ cs.drop ((i + 1) * 2)) ∧ Keep [g] w w' := by
  obtain ⟨i0, hI, hz0, hz1, hz2⟩ := info_parts info33
  have hlen := h.1
  obtain ⟨g, cap, cur, rfl, hg, hB, hc, hcm, hs, ht⟩ := own_blk h (by omega)
  have hmx : cap ≤ 9223372036854775807 := by unfold maxLen at hcm; omega
  have hv23 : ∀ w, (zeroValue 27).run Try.prog w = .ok (.agg #[.string ByteArray.empty, .string ByteArray.empty]) w := fun w => by simp [zeroValue, typeInfo, hI, hz0]
  obtain ⟨m, hm⟩ : ∃ m, m = n - j := ⟨_, rfl⟩
  have hji := hij.out
  -- the cells that move
  obtain ⟨news, hnews⟩ : ∃ news, news = cs.drop (j * 2) := ⟨_, rfl⟩
  have hnl : news.length = m * 2 := by rw [hnews, List.length_drop, hlen, hm, Nat.sub_mul]
  have hcell : ∀ t u, news[t]? = some u → w.cell? ⟨g, j * 2 + t, none⟩ = some u := fun t u hu => by
    rw [hnews, List.getElem?_drop, ← ht, List.getElem?_take] at hu
    split at hu
    · rw [hB.cell]; rwa [Array.getElem?_toList] at hu
    · cases hu
  obtain ⟨A, hA, hsrc⟩ : ∃ A : Addr, (if cap = j then some (⟨g, 0, none⟩ : Addr) else some ⟨g, j * 2, none⟩) = some A ∧ Hid (∀ t u, news[t]? = some u → w.drew.cell? (A.add t) = some u) := by
    by_cases hcj : cap = j
    · refine ⟨⟨g, 0, none⟩, by simp [hcj], Lib.hid fun t u hu => ?_⟩
      have h0 : news.length = 0 := by rw [hnl, hm, show n - j = 0 by omega, Nat.zero_mul]
      rw [List.length_eq_zero_iff.1 h0] at hu
      simp at hu
    · refine ⟨⟨g, j * 2, none⟩, by simp [hcj], Lib.hid fun t u hu => ?_⟩
      rw [addr_at]
      exact hcell t u hu
  have hfit1 : i * 2 + news.length ≤ cur.size := by rw [hnl, hs, ← Nat.add_mul]; exact Nat.mul_le_mul_right _ (by omega)
  have hsp : Hid (∀ t, t < news.length → (w.drew.cell? ⟨g, 0 + i * 2 + t, none⟩).isSome = true ∧ w.drew.frozen? ⟨g, 0 + i * 2 + t, none⟩ = false) := Lib.hid fun t ht => by
    refine ⟨?_, hB.frozen _⟩
    show (w.cell? _).isSome = true
    rw [hB.cell, Nat.zero_add, Array.getElem?_eq_getElem (by omega)]; rfl
  have h1n : Hid (∀ u ∈ news, u.oneCell' = true) := Lib.hid fun u hu => h1 u (by rw [hnews] at hu; exact List.mem_of_mem_drop hu)
  -- the world behind the append
  obtain ⟨W1, hW1⟩ : ∃ W1, W1 = w.drew.setCells g (0 + i * 2) news := ⟨_, rfl⟩
  have hW1r : W1 = w.drew.setRow g (over cur (i * 2) news) := by rw [hW1, Nat.zero_add]; exact setCells_row g 27 news _ cur w.drew hB hfit1
  have hB1 : Blk W1 g 27 (over cur (i * 2) news) := by rw [hW1r]; exact Blk.row (w := w.drew) hB _
  have hK1 : Keep [g] w W1 := by rw [hW1r]; exact (Keep.refl [g] w).drew.setRow (by simp) _
  obtain ⟨zs, hzs⟩ : ∃ zs, zs = (Builtin.zeroCells (Value.cells (.agg #[.string ByteArray.empty, .string ByteArray.empty])) 1).toList := ⟨_, rfl⟩
  have hzl : zs.length = 2 := by rw [hzs, zc_pairs]; rfl
  have hos := over_size cur (i * 2) news hfit1
  have hfit2 : (i + m) * 2 + zs.length ≤ (over cur (i * 2) news).size := by rw [hos, hzl, hs]; omega
  obtain ⟨R2, hR2⟩ : ∃ R2, R2 = over (over cur (i * 2) news) ((i + m) * 2) zs := ⟨_, rfl⟩
  have hcl : ∀ ty c, (Builtin.clear_ #[40] ty #[.slice (some ⟨g, (i + m) * 2, none⟩) 1 c]).run Try.prog W1 = .ok (.tuple #[]) (W1.setRow g R2) := fun ty c => by
    rw [hR2, hzs]
    exact run_clearS W1 40 27 ty _ Try.underlying40 hv23 g _ 1 c _ 27 hB1 (by decide) (by intro u hu; rw [zc_pairs] at hu; simp at hu; subst hu; rfl) (by rw [← hzs]; exact hfit2)
  have HW1 := Lib.hid hW1
  have e1 : n - (i + m) = 1 := by omega
  have e2 : i + (n - j) = i + m := by omega
  have hic : i ≤ cap := by omega
  have hjc : j ≤ cap := by omega
  have hjn : j ≤ n := by omega
  have hne : ¬ ((i : Int) = (j : Int)) := by omega
  have HT := Lib.hid ht
  have HR2 := Lib.hid hR2
  have HN := Lib.hid hnews
  have HL := Lib.hid hlen
  clear hW1 hW1r hcell hji hnews hv23 hlen hzs hB ht hR2
  have mixed : Try.prog.follows .mixedOrders = true := by kernel_rfl
  go_enter Try.func62, Try.ntmps62
  go_wp2_with fail
  go_region_law_o (refine step_append_room rfl (.tmp 22) (.tmp 25) 40 rfl 27 i0 2 Try.underlying40 hI hz1 g 0 i cap (by simp [Act.eval, Act.put]) A (n - j) (cap - j) news (by simp [Act.eval, Act.put, hA]) (by rw [hnl, hm]) hsrc.out h1n.out (by omega) hsp.out ?_; rw [← HW1.out])
  clear hsrc hsp h1n HW1 hA
  go_wp2_with fail
  go_ret
  refine ⟨g, cap, rfl, by rw [show n - 1 = i + m by omega]; rfl, ?_, hK1.setRow (by simp) _⟩
  have hj2 := hij.out
  refine ⟨?_, .inr ⟨g, cap, _, rfl, hg, hB1.row _, by omega, hcm, by rw [HR2.out, over_size _ _ _ hfit2, hos, hs], ?_⟩⟩
  · rw [List.length_append, List.length_take, List.length_drop, HL.out]; omega
  · rw [HR2.out, show n - 1 = i + m by omega, over_take_le _ _ _ _ (Nat.le_refl _) (by omega), over_take _ _ _ _ (by rw [hnl]; omega) (by omega), ← hj2, ← HN.out, ← HT.out, List.take_take, show min (i * 2) (n * 2) = i * 2 by omega]
end Go.Proofs.Ytgldgdpgbfejmaa
