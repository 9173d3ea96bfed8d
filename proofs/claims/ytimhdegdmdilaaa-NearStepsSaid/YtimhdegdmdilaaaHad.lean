/- slices.Insert into a row that is known whole. -/
import Derived.Test.YtimhdegdmdilaaaHac
import Derived.Test.YtimhdegdmdilaaaHaa
namespace Go.Proofs.Ytimhdegdmdilaaa
open Go.RowKit Go.Lib
set_option linter.unusedVariables false
set_option maxRecDepth 100000
set_option linter.unusedSimpArgs false
set_option linter.unnecessarySimpa false
set_option maxRecDepth 100000
theorem over_drop (X : Array Value) (o : Nat) (vs : List Value) (h : o + vs.length ≤ X.size ∨ o ≤ X.size) : (over X o vs).toList.drop (o + vs.length) = X.toList.drop (o + vs.length) := by
  unfold over splice
  have ho : o ≤ X.size := by omega
  rw [List.drop_append, List.drop_append, List.drop_of_length_le (by simp; omega), List.drop_of_length_le (l := vs) (by simp; omega), List.length_take, show min o X.toList.length = o by simp; omega, show o + vs.length - o - vs.length = 0 by omega, List.drop_zero, List.nil_append, List.nil_append]
theorem over_mid (X : Array Value) (o : Nat) (vs : List Value) (k : Nat) (h : k = vs.length) (hf : o + k ≤ X.size) : ((over X o vs).toList.drop o).take k = vs := by
  unfold over splice
  rw [List.drop_append, List.drop_of_length_le (by simp; omega), List.length_take, Array.length_toList, show min o X.size = o by omega, Nat.sub_self, List.drop_zero, List.nil_append, List.take_append_of_le_length (by omega), List.take_of_length_le (by omega)]
theorem zsz_kids : (Value.cells (.pointer none)).size = 1 := by simp [Value.cells]

/-- what slices.Insert leaves -/
def InsPost30 (base i n m : Nat) (v : Value) (cs el : List Value) (w : World) (e : Ending) (w' : World) : Prop :=
  ∃ v', e = .returned v' ∧ w'.ownsRow base 24 1 v' (n + m) (cs.take (i * 1) ++ (el ++ cs.drop (i * 1))) ∧ (v'.ownBlock = v.ownBlock ∨ v'.ownBlock = some w.heap.size) ∧ Keep v.ownBlock.toList w w'
set_option maxRecDepth 100000 in
set_option maxHeartbeats 4000000 in
theorem ins_kids_shift (base i n m vb : Nat) (v : Value) (cs el : List Value) (w : World) (h : w.ownsRow base 24 1 v n cs) (hi : i < n) (hm : 0 < m) (hn : n + m ≤ 1000) (h1 : ∀ u ∈ cs, u.oneCell' = true) (h1e : ∀ u ∈ el, u.oneCell' = true)
    (hv : Blk w vb 24 el.toArray) (hel : el.length = m * 1) (hne : v.ownBlock ≠ some vb) (g cap : Nat) (hvv : v = .slice (some ⟨g, 0, none⟩) n cap) (hroom : n + m ≤ cap) :
    Calls Try.prog 100 #[v, .int .i64 i, .slice (some ⟨vb, 0, none⟩) m m] w (InsPost30 base i n m v cs el w) := by
  obtain ⟨i0, hI, hz0, hz1, hz2⟩ := info_parts info30
  have hlen := h.1
  obtain ⟨g', cap', cur, hv', hg, hB, hc, hcm, hs, ht⟩ := own_blk h (by omega)
  subst hvv
  simp only [Value.slice.injEq, Option.some.injEq, Addr.mk.injEq, and_true, true_and] at hv'
  obtain ⟨rfl, rfl⟩ := hv'
  have hvg : vb ≠ g := fun e => hne (by rw [e]; rfl)
  have hmx : cap ≤ 9223372036854775807 := by unfold maxLen at hcm; omega
  have hsz : (Try.prog.info? 24).map (·.size) = some 1 := by rw [hI]; simp [hz1]
  have hsz' : ∀ w, (Go.sizeOf 24).run Try.prog w = .ok 1 w := fun w => by simp [sizeOf, typeInfo, hI, hz1]
  have hq1 : ¬ ((m : Int) = 0) := by omega
  have hq2 : ¬ ((i : Int) = (n : Int)) := by omega
  have hov : ∀ lb cb, (callFunc 114 #[.slice (some ⟨vb, 0, none⟩) m m, .slice (some ⟨g, (i + m), none⟩) lb cb]).run Try.prog w = .ok (.value (.bool false)) w := fun lb cb => by
    have hshv : w.shape? vb = some (24, el.toArray.size) := by have h' := hv; unfold Blk at h'; simp [World.shape?, h']
    have hshg : w.shape? g = some (24, cur.size) := by have h' := hB; unfold Blk at h'; simp [World.shape?, h']
    rw [run_callFunc_extern Try.func114 (by kernel_rfl) (by kernel_rfl) (by kernel_rfl) (e := Extern.SlicesOverlaps.overlaps #[86, 86] #[4]) (by kernel_rfl),
      Lib.run_overlaps_apart w 86 4 24 Try.underlying86 1 hsz' ⟨vb, 0, none⟩ ⟨g, (i + m), none⟩ m m lb cb hvg _ _ _ _ hshv hshg (by rw [hs]; omega) (hv.frozen _) (hv.frozen _)]
    rfl
  obtain ⟨D, hD⟩ : ∃ D, D = cs.drop (i * 1) := ⟨_, rfl⟩
  have hDl : D.length = (n - i) * 1 := by rw [hD, List.length_drop, hlen, Nat.sub_mul]
  have hDc : ∀ j u, D[j]? = some u → w.cell? ⟨g, i * 1 + j, none⟩ = some u := fun j u hu => by
    rw [hD, List.getElem?_drop, ← ht, List.getElem?_take] at hu
    split at hu
    · rw [hB.cell]; rwa [Array.getElem?_toList] at hu
    · cases hu
  have hf1 : (i + m) * 1 + D.length ≤ cur.size := by rw [hDl, hs, ← Nat.add_mul]; exact Nat.mul_le_mul_right _ (by omega)
  obtain ⟨R1, hR1⟩ : ∃ R1, R1 = over cur ((i + m) * 1) D := ⟨_, rfl⟩
  have hR1s : R1.size = cur.size := by rw [hR1]; exact over_size _ _ _ hf1
  have hcp1 : ∀ ty dc sc, (Builtin.copy_ #[86, 86] ty #[.slice (some ⟨g, (i + m), none⟩) (n + m - (i + m)) dc, .slice (some ⟨g, (i), none⟩) (n + m - i) sc]).run Try.prog w.drew = .ok (goInt ((n - i : Nat) : Int)) (w.drew.setRow g R1) := fun ty dc sc => by
    have e := run_copyS (P := Try.prog) w.drew 86 86 ty 24 1 g ((i + m) * 1) (n + m - (i + m)) dc ⟨g, i * 1, none⟩ (n + m - i) sc cur 24 D Try.underlying86 hsz hB
      (by rw [hDl]; congr 1; simp only [Nat.min_def]; split <;> omega) (fun j u hu => by rw [addr_at]; exact hDc j u hu) hf1 (fun u hu => h1 u (by rw [hD] at hu; exact List.mem_of_mem_drop hu))
    rw [show Nat.min (n + m - i) (n + m - (i + m)) = n - i by simp only [Nat.min_def]; split <;> omega, ← hR1] at e
    simpa only [Nat.mul_one] using e
  have hB1 : Blk (w.drew.setRow g R1) g 24 R1 := Blk.row (w := w.drew) hB _
  have hK1 : Keep [g] w (w.drew.setRow g R1) := (Keep.refl [g] w).drew.setRow (by simp) _
  have hv1 : Blk (w.drew.setRow g R1) vb 24 el.toArray := hv.keep hK1 (by simpa using hvg)
  have hf2 : i * 1 + el.length ≤ R1.size := by rw [hel, hR1s, hs, ← Nat.add_mul]; exact Nat.mul_le_mul_right _ (by omega)
  obtain ⟨R2, hR2⟩ : ∃ R2, R2 = over R1 (i * 1) el := ⟨_, rfl⟩
  have hR2s : R2.size = cur.size := by rw [hR2, over_size _ _ _ hf2]; exact hR1s
  obtain ⟨W1, hW1⟩ : ∃ W1, W1 = w.drew.setRow g R1 := ⟨_, rfl⟩
  rw [← hW1] at hB1 hK1 hv1 hcp1
  have hcp2 : ∀ ty dc, (Builtin.copy_ #[86, 86] ty #[.slice (some ⟨g, (i), none⟩) (n + m - i) dc, .slice (some ⟨vb, 0, none⟩) m m]).run Try.prog W1 = .ok (goInt m) (W1.setRow g R2) := fun ty dc => by
    have e := run_copyS (P := Try.prog) W1 86 86 ty 24 1 g (i * 1) (n + m - i) dc ⟨vb, 0, none⟩ m m R1 24 el Try.underlying86 hsz hB1
      (by rw [hel]; congr 1; simp only [Nat.min_def]; split <;> omega) (fun j u hu => by rw [addr_at, Nat.zero_add, hv1.cell]; simpa using hu) hf2 h1e
    rw [show Nat.min m (n + m - i) = m by simp only [Nat.min_def]; split <;> omega, ← hR2] at e
    simpa only [Nat.mul_one] using e
  have hw1 : IntKind.i64.wrap ((i : Int) + (m : Int)) = (i : Int) + (m : Int) := IntWalk.i64_in _ (by omega)
  have hb1 : (0 : Int) ≤ (i : Int) + (m : Int) := by omega
  have hin : i ≤ n := by omega
  have htn : ((i : Int) + (m : Int)).toNat = i + m := by omega
  have hb2 : ¬ (cap = i + m) := by omega
  have hb3 : (i : Int) ≤ (n : Int) + (m : Int) := by omega
  have hb4 : ¬ (cap = i) := by omega
  have HT := Lib.hid ht
  have HD := Lib.hid hD
  have HL := Lib.hid hlen
  have HR1 := Lib.hid hR1
  have HR2 := Lib.hid hR2
  have HS := Lib.hid hs
  have HE := Lib.hid hel
  have HDL := Lib.hid hDl
  clear hW1 hR1 hR2 hD ht hlen hsz hsz' hDc hs hB hv hv1 h hne hel hDl
  have mixed : Try.prog.follows .mixedOrders = true := by kernel_rfl
  go_enter Try.func100, Try.ntmps100
  go_wp2_with (simp only [hov])
  go_region_law_o (refine step_copyR rfl _ _ 86 86 rfl _ _ (by simp [Act.eval, Act.put]) (by simp [Act.eval, Act.put]) (hcp1 _ _ _) ?_)
  go_wp2_with (refine wpList_copyR _ rfl _ _ 86 86 rfl _ _ rfl rfl (hcp2 _ _) ?_)
  go_ret
  refine ⟨.slice (some ⟨g, 0, none⟩) (n + m) cap, rfl, ⟨?_, .inr ⟨g, cap, R2, rfl, hg, hB1.row R2, hroom, hcm, by rw [hR2s, HS.out], ?_⟩⟩, .inl rfl, hK1.setRow (by simp) _⟩
  · rw [List.length_append, List.length_append, List.length_take, List.length_drop, HL.out, HE.out]; omega
  · have e1 : R2.toList.take (i * 1 + el.length) = R1.toList.take (i * 1) ++ el := by rw [HR2.out]; exact over_take _ _ _ _ rfl (by rw [hR1s, HS.out]; omega)
    have e2 : R2.toList.take ((n + m) * 1) = R2.toList.take (i * 1 + el.length) ++ (R2.toList.drop (i * 1 + el.length)).take ((n - i) * 1) := by
      rw [← List.take_add, HE.out]; congr 1; omega
    have e3 : R2.toList.drop (i * 1 + el.length) = R1.toList.drop (i * 1 + el.length) := by rw [HR2.out]; exact over_drop _ _ _ (by omega)
    have e4 : (R1.toList.drop (i * 1 + el.length)).take ((n - i) * 1) = D := by
      rw [HR1.out, HE.out, ← Nat.add_mul]; exact over_mid _ _ _ _ HDL.out.symm (by rw [HDL.out] at hf1; omega)
    have e5 : R1.toList.take (i * 1) = cs.take (i * 1) := by
      rw [HR1.out, over_take_le _ _ _ _ (by omega) (by omega), ← HT.out, List.take_take, show min (i * 1) (n * 1) = i * 1 by omega]
    rw [e2, e3, e4, e1, e5, HD.out, List.append_assoc]
set_option maxRecDepth 100000 in
set_option maxHeartbeats 4000000 in
theorem ins_kids_grow (base i n m vb : Nat) (v : Value) (cs el : List Value) (w : World) (h : w.ownsRow base 24 1 v n cs) (hi : i < n) (hm : 0 < m) (hn : n + m ≤ 1000) (h1 : ∀ u ∈ cs, u.oneCell' = true) (h1e : ∀ u ∈ el, u.oneCell' = true)
    (hv : Blk w vb 24 el.toArray) (hel : el.length = m * 1) (hbase : base ≤ w.heap.size) (g cap : Nat) (hvv : v = .slice (some ⟨g, 0, none⟩) n cap) (hroom : cap < n + m) :
    Calls Try.prog 100 #[v, .int .i64 i, .slice (some ⟨vb, 0, none⟩) m m] w (InsPost30 base i n m v cs el w) := by
  obtain ⟨i0, hI, hz0, hz1, hz2⟩ := info_parts info30
  have hlen := h.1
  obtain ⟨g', cap', cur, hv', hg, hB, hc, hcm, hs, ht⟩ := own_blk h (by omega)
  subst hvv
  simp only [Value.slice.injEq, Option.some.injEq, Addr.mk.injEq, and_true, true_and] at hv'
  obtain ⟨rfl, rfl⟩ := hv'
  have hsz : (Try.prog.info? 24).map (·.size) = some 1 := by rw [hI]; simp [hz1]
  have hq1 : ¬ ((m : Int) = 0) := by omega
  have hq2 : ¬ ((i : Int) = (n : Int)) := by omega
  have hq3 : (cap : Int) < (n : Int) + (m : Int) := by omega
  have hkk : (n : Int) + (m : Int) - (i : Int) = ((n + m - i : Nat) : Int) := by omega
  have hik : i + (n + m - i) = n + m := by omega
  have hcc : ∀ j u, cs[j]? = some u → w.cell? ⟨g, j, none⟩ = some u := fun j u hu => by
    rw [← ht, List.getElem?_take] at hu
    split at hu
    · rw [hB.cell]; rwa [Array.getElem?_toList] at hu
    · cases hu
  have hold : (Builtin.firstCells i0.size i (.slice (some ⟨g, 0, none⟩) i cap)).run Try.prog w.drew = .ok (cs.take (i * 1)).toArray w.drew := by
    rw [hz1]
    refine run_firstCells_some w.drew 1 i ⟨g, 0, none⟩ i cap (cs.take (i * 1)) (by rw [List.length_take, hlen]; omega) (fun j u hj => ?_)
    rw [addr_at, Nat.zero_add]
    rw [List.getElem?_take] at hj
    split at hj
    · exact hcc j u hj
    · cases hj
  have hrz : ∀ ty, (Builtin.append_ #[86, 3] ty #[.slice (some ⟨g, 0, none⟩) i cap, .int .i64 ((n : Int) + (m : Int) - (i : Int))]).run Try.prog w =
      .ok (.slice (some ⟨w.heap.size, 0, none⟩) (n + m) (grownCap w (n + m) cap 24)) (w.drew.alloc (.cells ((cs.take (i * 1)).toArray ++ Builtin.zeroCells (Value.cells (.pointer none)) (n + m - i) ++ Builtin.zeroCells (Value.cells (.pointer none)) (grownCap w (n + m) cap 24 - (n + m))) 24)) := fun ty => by
    have h := Lib.run_append_grow_zeros (P := Try.prog) w 86 3 ty 24 i0 _ .i64 .i64 Try.underlying86 Try.underlying3 hI hz0 (some ⟨g, 0, none⟩) i cap (cs.take (i * 1)) hold (n + m - i) (by omega) (by omega) (by omega) (by omega) (by rw [hz2]; omega) (by rw [hz2, hik]; exact growslice_fits hroom (by omega))
    rw [hik] at h
    rw [hkk]
    exact h
  have hcg := grownCap_ge w (n + m) cap 24
  have hcgm := grownCap_le_maxLen w (n + m) cap 24 (by unfold maxLen; omega)
  generalize grownCap w (n + m) cap 24 = G at *
  obtain ⟨ROW, hROW⟩ : ∃ ROW : Array Value, ROW = (cs.take (i * 1)).toArray ++ Builtin.zeroCells (Value.cells (.pointer none)) (n + m - i) ++ Builtin.zeroCells (Value.cells (.pointer none)) (G - (n + m)) := ⟨_, rfl⟩
  rw [← hROW] at hrz
  have hRs : ROW.size = G * 1 := by
    rw [hROW, Array.size_append, Array.size_append, List.size_toArray, List.length_take, hlen]
    simp only [Builtin.zeroCells, Array.size_map, Array.size_range, zsz_kids]
    omega
  have hRt : ROW.toList.take (i * 1) = cs.take (i * 1) := by
    have e : ROW.toList = cs.take (i * 1) ++ ((Builtin.zeroCells (Value.cells (.pointer none)) (n + m - i)).toList ++ (Builtin.zeroCells (Value.cells (.pointer none)) (G - (n + m))).toList) := by rw [hROW]; simp
    rw [e, List.take_append_of_le_length (by rw [List.length_take, hlen]; omega), List.take_take, Nat.min_self]
  obtain ⟨N, hN⟩ : ∃ N, N = w.heap.size := ⟨_, rfl⟩
  rw [← hN] at hrz hbase
  obtain ⟨W1, hW1⟩ : ∃ W1, W1 = w.drew.alloc (.cells ROW 24) := ⟨_, rfl⟩
  have hBN : Blk W1 N 24 ROW := by rw [hW1, hN]; exact Blk.new w.drew 24 ROW
  have hK0 : Keep [N] w W1 := by rw [hW1]; exact (Keep.refl [N] w).drew.alloc _
  have hbl := hB.lt
  have hvl := hv.lt
  have hB1 : Blk W1 g 24 cur := hB.keep hK0 (by simp; omega)
  have hv1 : Blk W1 vb 24 el.toArray := hv.keep hK0 (by simp; omega)
  obtain ⟨D, hD⟩ : ∃ D, D = cs.drop (i * 1) := ⟨_, rfl⟩
  have hDl : D.length = (n - i) * 1 := by rw [hD, List.length_drop, hlen, Nat.sub_mul]
  obtain ⟨R1, hR1⟩ : ∃ R1, R1 = over ROW (i * 1) el := ⟨_, rfl⟩
  have hf1 : i * 1 + el.length ≤ ROW.size := by rw [hel, hRs, ← Nat.add_mul]; exact Nat.mul_le_mul_right _ (by omega)
  have hR1s : R1.size = ROW.size := by rw [hR1]; exact over_size _ _ _ hf1
  have hf2 : (i + m) * 1 + D.length ≤ R1.size := by rw [hDl, hR1s, hRs, ← Nat.add_mul]; exact Nat.mul_le_mul_right _ (by omega)
  obtain ⟨R2, hR2⟩ : ∃ R2, R2 = over R1 ((i + m) * 1) D := ⟨_, rfl⟩
  have hR2s : R2.size = ROW.size := by rw [hR2, over_size _ _ _ hf2]; exact hR1s
  have hcpA : ∀ (W : World), W.heap = W1.heap → ∀ ty dc, (Builtin.copy_ #[86, 86] ty #[.slice (some ⟨N, (i), none⟩) (n + m - i) dc, .slice (some ⟨vb, 0, none⟩) m m]).run Try.prog W = .ok (goInt m) (W.setRow N R1) := fun W hW ty dc => by
    have hbn : Blk W N 24 ROW := by unfold Blk; rw [hW]; exact hBN
    have hbv : Blk W vb 24 el.toArray := by unfold Blk; rw [hW]; exact hv1
    have e := run_copyS (P := Try.prog) W 86 86 ty 24 1 N (i * 1) (n + m - i) dc ⟨vb, 0, none⟩ m m ROW 24 el Try.underlying86 hsz hbn
      (by rw [hel]; congr 1; simp only [Nat.min_def]; split <;> omega) (fun j u hu => by rw [addr_at, Nat.zero_add, hbv.cell]; simpa using hu) hf1 h1e
    rw [show Nat.min m (n + m - i) = m by simp only [Nat.min_def]; split <;> omega, ← hR1] at e
    simpa only [Nat.mul_one] using e
  have hcpB : ∀ (W : World), W.heap = (W1.setRow N R1).heap → ∀ ty dc sc, (Builtin.copy_ #[86, 86] ty #[.slice (some ⟨N, (i + m), none⟩) (n + m - (i + m)) dc, .slice (some ⟨g, (i), none⟩) (n - i) sc]).run Try.prog W = .ok (goInt ((n - i : Nat) : Int)) (W.setRow N R2) := fun W hW ty dc sc => by
    have hbn : Blk W N 24 R1 := by unfold Blk; rw [hW]; exact hBN.row R1
    have hbg : Blk W g 24 cur := by unfold Blk; rw [hW]; exact hB1.keep ((Keep.refl [N] W1).setRow (by simp) R1) (by simp; omega)
    have e := run_copyS (P := Try.prog) W 86 86 ty 24 1 N ((i + m) * 1) (n + m - (i + m)) dc ⟨g, i * 1, none⟩ (n - i) sc R1 24 D Try.underlying86 hsz hbn
      (by rw [hDl]; congr 1; simp only [Nat.min_def]; split <;> omega) (fun j u hu => by
        rw [addr_at, hbg.cell]
        rw [hD, List.getElem?_drop] at hu
        have := hcc _ u hu
        rwa [hB.cell] at this) hf2 (fun u hu => h1 u (by rw [hD] at hu; exact List.mem_of_mem_drop hu))
    rw [show Nat.min (n - i) (n + m - (i + m)) = n - i by simp only [Nat.min_def]; split <;> omega, ← hR2] at e
    simpa only [Nat.mul_one] using e
  have hG63 : G ≤ 9223372036854775807 := by unfold maxLen at hcgm; omega
  have hGi : ¬ (G = i) := by omega
  have hGim : ¬ (G = i + m) := by omega
  have hci : ¬ (cap = i) := by omega
  have hw1 : IntKind.i64.wrap ((i : Int) + (m : Int)) = (i : Int) + (m : Int) := IntWalk.i64_in _ (by omega)
  have hb1 : (0 : Int) ≤ (i : Int) + (m : Int) := by omega
  have hin : i ≤ n := by omega
  have htn : ((i : Int) + (m : Int)).toNat = i + m := by omega
  have hb3 : (i : Int) ≤ (n : Int) := by omega
  have HBe : Below w.heap.size w W1 := by rw [hW1]; exact ((Below.refl _ w).drew).alloc (Nat.le_refl _) _
  have HN := Lib.hid hN
  have HD := Lib.hid hD
  have HL := Lib.hid hlen
  have HR1 := Lib.hid hR1
  have HR2 := Lib.hid hR2
  have HRS := Lib.hid hRs
  have HRT := Lib.hid hRt
  have HE := Lib.hid hel
  have HDL := Lib.hid hDl
  have hE1 : ((w.alloc (.cells ROW 24)).drew).heap = W1.heap := by rw [hW1]; rfl
  have hE2 : (((w.alloc (.cells ROW 24)).drew.setRow N R1).drew).heap = (W1.setRow N R1).heap := by rw [hW1]; rfl
  have hE3 : (((w.alloc (.cells ROW 24)).drew.setRow N R1).drew.setRow N R2).heap = ((W1.setRow N R1).setRow N R2).heap := by rw [hW1]; rfl
  have HW1 := Lib.hid hW1
  rw [hW1] at hcpA hcpB hE1 hE2
  have HE3 := Lib.hid hE3
  clear hkk hik hold hROW hRt hRs hN hD hlen hR1 hR2 hel hDl hW1 hv1 hB1 hB hv ht hs h hcc hsz hE3
  have mixed : Try.prog.follows .mixedOrders = true := by kernel_rfl
  go_enter Try.func100, Try.ntmps100
  go_wp2_with (first
    | (at_builtin; refine Lib.wpList_append_run _ rfl _ _ _ _ rfl _ _ rfl rfl _ _ (hrz _) ?_)
    | (refine wpList_copyR _ rfl _ _ 86 86 rfl _ _ rfl rfl (hcpA _ hE1 _ _) ?_))
  go_region_law_o (refine step_copyR rfl _ _ 86 86 rfl (.slice (some ⟨N, (i + m), none⟩) (n + m - (i + m)) (G - (i + m))) (.slice (some ⟨g, (i), none⟩) (n - i) (cap - i)) (by simp [Act.eval, Act.put]) (by simp [Act.eval, Act.put]) (hcpB _ hE2 3 (G - (i + m)) (cap - i)) ?_)
  go_wp2_with fail
  go_ret
  refine ⟨.slice (some ⟨N, 0, none⟩) (n + m) G, rfl, ⟨?_, .inr ⟨N, G, R2, rfl, hbase, ?_, hcg, hcgm, by rw [hR2s, HRS.out], ?_⟩⟩, .inr (by rw [← HN.out]; rfl), Keep.of_below (below_setRow ((below_setRow (((Below.refl w.heap.size w).alloc (Nat.le_refl _) _).drew) (by rw [HN.out]; exact Nat.le_refl _) _).drew) (by rw [HN.out]; exact Nat.le_refl _) _)⟩
  · rw [List.length_append, List.length_append, List.length_take, List.length_drop, HL.out, HE.out]; omega
  · have hb : Blk ((W1.setRow N R1).setRow N R2) N 24 R2 := (hBN.row R1).row R2
    unfold Blk at hb
    rw [← HE3.out] at hb
    exact hb
  · have e1 : R2.toList.take ((n + m) * 1) = R1.toList.take ((i + m) * 1) ++ D := by
      rw [HR2.out]; exact over_take _ _ _ _ (by rw [HDL.out, ← Nat.add_mul]; congr 1; omega) (by rw [hR1s, HRS.out]; exact Nat.mul_le_mul_right _ (by omega))
    have e2 : R1.toList.take ((i + m) * 1) = ROW.toList.take (i * 1) ++ el := by
      rw [HR1.out]; exact over_take _ _ _ _ (by rw [HE.out, ← Nat.add_mul]) (by rw [HRS.out]; exact Nat.mul_le_mul_right _ (by omega))
    rw [e1, e2, HRT.out, HD.out, List.append_assoc]
set_option maxRecDepth 100000 in
set_option maxHeartbeats 4000000 in
theorem ins_kids_end (base n m vb : Nat) (v : Value) (cs el : List Value) (w : World) (h : w.ownsRow base 24 1 v n cs) (hm : 0 < m) (hn : n + m ≤ 1000) (h1e : ∀ u ∈ el, u.oneCell' = true)
    (hv : Blk w vb 24 el.toArray) (hel : el.length = m * 1) (hbase : base ≤ w.heap.size) :
    Calls Try.prog 100 #[v, .int .i64 n, .slice (some ⟨vb, 0, none⟩) m m] w (InsPost30 base n n m v cs el w) := by
  obtain ⟨i0, hI, hz0, hz1, hz2⟩ := info_parts info30
  have hq1 : ¬ ((m : Int) = 0) := by omega
  have hlen := Lib.hid h.1
  have hge := own_ge h
  obtain ⟨A, cap, hvv, hcap⟩ : ∃ A cap, v = .slice A n cap ∧ n ≤ cap := by
    rcases h.2 with ⟨h1, h2⟩ | ⟨g, cap, cur, h1, _, _, h3, _⟩
    · exact ⟨none, 0, by rw [h1, h2], by omega⟩
    · exact ⟨_, cap, h1, h3⟩
  have hcv : ∀ j u, el[j]? = some u → w.cell? ((⟨vb, 0, none⟩ : Addr).add j) = some u := fun j u hu => by rw [addr_at, Nat.zero_add, hv.cell]; simpa using hu
  subst hvv
  clear hv
  by_cases hcn : cap = n
  · subst hcn
    go_enter Try.func100, Try.ntmps100
    go_wp2_with (at_builtin; refine wpList_append_own_at _ rfl _ _ 86 rfl base 24 i0 _ 1 8 Try.underlying86 hI hz0 hz1 hz2 zsz_kids (by decide) (.slice A cap cap) cap cs rfl h ⟨vb, 0, none⟩ m m el rfl hel hcv h1e (by unfold maxLen; omega) (by omega) hbase ?_; intro v' wa hown' hgrow hnil hat)
    go_ret
    refine ⟨v', rfl, ?_, hat, ⟨⟨hgrow.os, hgrow.tape, hgrow.output, hgrow.size, fun i hi => by omega⟩, fun i hi hx => hgrow.block i hi (fun e => hx (by rw [← e]; simp))⟩⟩
    rw [List.take_of_length_le (by rw [hlen.out]; exact Nat.le_refl _), List.drop_of_length_le (by rw [hlen.out]; exact Nat.le_refl _), List.append_nil]
    exact hown'
  · go_enter Try.func100, Try.ntmps100
    go_wp2_with (at_builtin; refine wpList_append_own_at _ rfl _ _ 86 rfl base 24 i0 _ 1 8 Try.underlying86 hI hz0 hz1 hz2 zsz_kids (by decide) (.slice A n cap) n cs rfl h ⟨vb, 0, none⟩ m m el rfl hel hcv h1e (by unfold maxLen; omega) (by omega) hbase ?_; intro v' wa hown' hgrow hnil hat)
    go_ret
    refine ⟨v', rfl, ?_, hat, ⟨⟨hgrow.os, hgrow.tape, hgrow.output, hgrow.size, fun i hi => by omega⟩, fun i hi hx => hgrow.block i hi (fun e => hx (by rw [← e]; simp))⟩⟩
    rw [List.take_of_length_le (by rw [hlen.out]; exact Nat.le_refl _), List.drop_of_length_le (by rw [hlen.out]; exact Nat.le_refl _), List.append_nil]
    exact hown'
theorem ins_kids (base i n m vb : Nat) (v : Value) (cs el : List Value) (w : World) (h : w.ownsRow base 24 1 v n cs) (hi : i ≤ n) (hm : 0 < m) (hn : n + m ≤ 1000) (h1 : ∀ u ∈ cs, u.oneCell' = true) (h1e : ∀ u ∈ el, u.oneCell' = true)
    (hv : Blk w vb 24 el.toArray) (hel : el.length = m * 1) (hbase : base ≤ w.heap.size) (hne : v.ownBlock ≠ some vb) :
    Calls Try.prog 100 #[v, .int .i64 i, .slice (some ⟨vb, 0, none⟩) m m] w (InsPost30 base i n m v cs el w) := by
  rcases Nat.lt_or_eq_of_le hi with hlt | rfl
  · obtain ⟨g, cap, cur, hvv, hg, hB, hc, hcm, hs, ht⟩ := own_blk h (by omega)
    rcases Nat.lt_or_ge cap (n + m) with hr | hr
    · exact ins_kids_grow base i n m vb v cs el w h hlt hm hn h1 h1e hv hel hbase g cap hvv hr
    · exact ins_kids_shift base i n m vb v cs el w h hlt hm hn h1 h1e hv hel hne g cap hvv hr
  · exact ins_kids_end base i m vb v cs el w h hm hn h1e hv hel hbase
end Go.Proofs.Ytimhdegdmdilaaa
/- Rows of children: kcs, OwnK, slices.Clone of children. -/
namespace Go.Proofs.Ytimhdegdmdilaaa
open Go.RowKit Go.Lib
set_option linter.unusedVariables false
set_option maxRecDepth 100000
set_option linter.unusedSimpArgs false
set_option linter.unnecessarySimpa false
set_option maxRecDepth 100000
def insAt {α : Type} (xs : List α) (i : Nat) (x : α) : List α := xs.take i ++ x :: xs.drop i
/-- the element at place i, or one more there -/
def putAt {α : Type} (xs : List α) (i : Nat) (rep : Bool) (x : α) : List α := if rep then xs.set i x else insAt xs i x
theorem insAt_len {α : Type} (xs : List α) (i : Nat) (x : α) (h : i ≤ xs.length) : (insAt xs i x).length = xs.length + 1 := by
  unfold insAt; simp; omega
/-- children as the cells of a row -/
def kcs (ks : List Nat) : List Value := ks.map at0
theorem kcs_one (ks : List Nat) : ∀ u ∈ kcs ks, u.oneCell' = true := by
  intro u hu
  obtain ⟨k, _, rfl⟩ := List.mem_map.1 hu
  rfl
theorem kcs_ins (ks : List Nat) (i k : Nat) : (kcs ks).take (i * 1) ++ ([at0 k] ++ (kcs ks).drop (i * 1)) = kcs (insAt ks i k) := by
  unfold insAt kcs; simp
theorem kcs_del (ks : List Nat) (i : Nat) : (kcs ks).take (i * 1) ++ (kcs ks).drop ((i + 1) * 1) = kcs (ks.eraseIdx i) := by
  rw [List.eraseIdx_eq_take_drop_succ]
  unfold kcs; simp
/-- a row of children that the call owns -/
def OwnK (base : Nat) (w : World) (v : Value) (ks : List Nat) : Prop := w.ownsRow base 24 1 v ks.length (kcs ks)
theorem OwnK.base {b b' : Nat} {w : World} {v : Value} {xs : List Nat} (h : OwnK b w v xs) (hb : b' ≤ b) : OwnK b' w v xs := by
  refine ⟨h.1, ?_⟩
  rcases h.2 with h1 | ⟨g, cap, cur, h1, hg, h2⟩
  · exact .inl h1
  · exact .inr ⟨g, cap, cur, h1, Nat.le_trans hb hg, h2⟩
theorem Keep.sub {X Y : List Nat} {a b : World} (h : Keep X a b) (hs : ∀ x ∈ X, x ∈ Y) : Keep Y a b := h.mono fun x hx => .inl (hs x hx)
/-- a place that is the old one, or a new one -/
def SameOrNew (v v' : Value) (n : Nat) : Prop := ∀ g, v'.ownBlock = some g → v.ownBlock = some g ∨ n ≤ g
/-- a copy of a row: nil of nil, else a new one -/
theorem own_nil_or {w : World} {base : Nat} {e : TypeId} {size n : Nat} {v : Value} {xs : List Value} (h : w.ownsRow base e size v n xs) : (v = .slice none 0 0 ∧ n = 0) ∨ ∃ g cap, v = .slice (some ⟨g, 0, none⟩) n cap := by
  rcases h.2 with h1 | ⟨g, cap, cur, h1, _⟩
  · exact .inl h1
  · exact .inr ⟨g, cap, h1⟩
def CloneK (xs : List Nat) (w : World) (e : Ending) (w' : World) : Prop := ∃ v, e = .returned v ∧ OwnK w.heap.size w' v xs ∧ Below w.heap.size w w'
theorem clone_knil (w : World) : Calls Try.prog 94 #[.slice none 0 0] w fun e w' => e = .returned (.slice none 0 0) ∧ w = w' := by
  have hnl := fun w => run_eql_slice_nil (P := Try.prog) w 86 24 none 0 0 0 0 Try.underlying86
  go_enter Try.func94, Try.ntmps94
  go_wp2_with fail
  go_ret
  exact ⟨rfl, rfl⟩
theorem ownk_lit (w : World) : w.alloc (.cells #[] 24) |>.ownsRow w.heap.size 24 1 (.slice (some ⟨w.heap.size, 0, none⟩) 0 0) 0 [] :=
  World.ownsRow_lit w #[] 0 (Nat.le_refl _) (Nat.zero_le _) rfl
set_option maxHeartbeats 2000000 in
theorem clone_kids (base : Nat) (v : Value) (xs : List Nat) (w : World) (h : OwnK base w v xs) (hn : xs.length ≤ 900) : Calls Try.prog 94 #[v] w (CloneK xs w) := by
  rcases own_nil_or h with ⟨h1, h0⟩ | ⟨g, cap, h1⟩
  · rw [h1]
    obtain rfl := List.length_eq_zero_iff.1 h0
    refine (clone_knil w).mono ?_
    rintro e w' ⟨rfl, rfl⟩
    exact ⟨_, rfl, World.ownsRow_nil _ _ _ _, Below.refl _ _⟩
  · subst h1
    obtain ⟨i0, hi, hz0, hz1, hz2⟩ := info_parts info30
    have hh : (w.alloc (.cells #[] 24)).ownsRow base 24 1 (.slice (some ⟨g, 0, none⟩) xs.length cap) xs.length (kcs xs) := World.ownsRow.alloc h _
    have hcells : ∀ j u, (kcs xs)[j]? = some u → (w.alloc (.cells #[] 24)).cell? ((⟨g, 0, none⟩ : Addr).add j) = some u := fun j u hu => by
      have hl := (List.getElem?_eq_some_iff.1 hu).1
      have : (kcs xs).length = xs.length := by simp [kcs]
      rw [addr_at, Nat.zero_add, hh.cellAt j (by omega)]; exact hu
    have hkl : (kcs xs).length = xs.length * 1 := by simp [kcs]
    have hlit := ownk_lit w
    have hnl := fun w => run_eql_slice_nil (P := Try.prog) w 86 24 (some ⟨g, 0, none⟩) xs.length cap 0 0 Try.underlying86
    clear hh h
    go_enter Try.func94, Try.ntmps94
    go_wp2_with (at_builtin; refine wpList_append_own _ rfl _ _ 86 rfl w.heap.size 24 i0 _ 1 8 Try.underlying86 hi hz0 hz1 hz2 zsz_kids (by decide) _ _ _ rfl hlit ⟨g, 0, none⟩ xs.length cap (kcs xs) rfl hkl hcells (kcs_one xs) (by unfold maxLen; omega) (by omega) (by simp) ?_; intro v' wa hown' hgrow hnil)
    go_ret
    have hB : Below w.heap.size w wa := ((Below.refl _ w).alloc (Nat.le_refl _) _).grown hgrow (by simp) (own_ge hlit)
    refine ⟨v', rfl, ?_, hB⟩
    unfold OwnK
    simpa using hown'
end Go.Proofs.Ytimhdegdmdilaaa
/- Nodes of radix trees in memory. -/
namespace Go.Proofs.Ytimhdegdmdilaaa
open Go.RowKit Go.Lib
set_option linter.unusedVariables false
set_option maxRecDepth 100000
set_option linter.unusedSimpArgs false
set_option linter.unnecessarySimpa false
set_option maxRecDepth 100000
/-- a node's own cells -/
structure Nod (base : Nat) (w : World) (b : Nat) (t : RX) (kv : Value) (bs : List Nat) : Prop where
  blk : ∃ (o : Value) (lab val : ByteArray) (sh : Bool), Blk w b 132 #[o, .string lab, .string val, .bool t.val.isSome, kv, .bool sh] ∧ lab.data.toList = t.lab ∧ val = t.val.getD ByteArray.empty
  row : OwnK base w kv bs
  len : bs.length = t.kids.length
/-- a tree in memory, all its blocks P -/
inductive RadW (P : Nat → Prop) (w : World) : Nat → RX → Prop
  | mk {b : Nat} {t : RX} {kv : Value} {bs : List Nat} : Nod 0 w b t kv bs → P b → (∀ g, kv.ownBlock = some g → P g) → (∀ (i c : Nat) (k : RX), bs[i]? = some c → t.kids[i]? = some k → RadW P w c k) → RadW P w b t
/-- a tree whose node the call may change: it is from base on, and its kids are elsewhere -/
structure MineW (P : Nat → Prop) (base : Nat) (w : World) (b : Nat) (t : RX) : Prop where
  ex : ∃ (kv : Value) (bs : List Nat), Nod base w b t kv bs ∧ base ≤ b ∧ ∀ (i c : Nat) (k : RX), bs[i]? = some c → t.kids[i]? = some k → RadW (fun x => P x ∧ x ≠ b ∧ kv.ownBlock ≠ some x) w c k
section
variable {P R : Nat → Prop} {base : Nat} {w w' : World} {b : Nat} {t : RX} {kv : Value} {bs : List Nat}
theorem Nod.base_ (h : Nod base w b t kv bs) {c : Nat} (hc : c ≤ base) : Nod c w b t kv bs := ⟨h.blk, h.row.base hc, h.len⟩
theorem Nod.lt (h : Nod base w b t kv bs) : b < w.heap.size := by obtain ⟨o, lab, val, sh, hB, -⟩ := h.blk; exact hB.lt
theorem OwnK.lt {v : Value} {ks : List Nat} (h : OwnK base w v ks) {g : Nat} (hg : v.ownBlock = some g) : g < w.heap.size := by
  obtain ⟨cur, hc⟩ := own_cells h g hg
  exact (Array.getElem?_eq_some_iff.1 hc).1
theorem Nod.keep {X : List Nat} (h : Nod base w b t kv bs) (hk : Keep X w w') (hb : b ∉ X) (hr : ∀ g, kv.ownBlock = some g → g ∉ X) : Nod base w' b t kv bs := by
  obtain ⟨o, lab, val, sh, hB, h2⟩ := h.blk
  exact ⟨⟨o, lab, val, sh, hB.keep hk hb, h2⟩, own_keep h.row hk (fun x hx e => hr x e hx), h.len⟩
theorem RadW.ind_ {w : World} {Q : Nat → RX → Prop} (h : ∀ (b : Nat) (t : RX) (kv : Value) (bs : List Nat), Nod 0 w b t kv bs → P b → (∀ g, kv.ownBlock = some g → P g) → (∀ (i c : Nat) (k : RX), bs[i]? = some c → t.kids[i]? = some k → RadW P w c k) → (∀ (i c : Nat) (k : RX), bs[i]? = some c → t.kids[i]? = some k → Q c k) → Q b t) {b : Nat} {t : RX} (hr : RadW P w b t) : Q b t := by
  induction hr with
  | mk h1 h2 h3 h4 ih => exact h _ _ _ _ h1 h2 h3 h4 ih
theorem RadW.mono (h : RadW P w b t) (hR : ∀ x, P x → x < w.heap.size → R x) : RadW R w b t := by
  refine RadW.ind_ (Q := fun b t => RadW R w b t) (fun b t kv bs h1 h2 h3 h4 ih => ?_) h
  exact .mk h1 (hR _ h2 h1.lt) (fun g hg => hR _ (h3 g hg) (h1.row.lt hg)) ih
theorem RadW.keep {X : List Nat} (h : RadW P w b t) (hk : Keep X w w') (hP : ∀ x, P x → x ∉ X) : RadW P w' b t := by
  refine RadW.ind_ (Q := fun b t => RadW P w' b t) (fun b t kv bs h1 h2 h3 h4 ih => ?_) h
  exact .mk (h1.keep hk (hP _ h2) fun g hg => hP _ (h3 g hg)) h2 h3 ih
theorem RadW.stay (h : RadW P w b t) (hb : Below w.heap.size w w') : RadW P w' b t := h.keep (Keep.of_below (X := []) hb) (by simp)
/-- what is not from base on stays -/
theorem keep_of {base : Nat} (hb : Below base w w') : ∃ X, Keep X w w' ∧ ∀ x ∈ X, base ≤ x ∧ x < w.heap.size := by
  refine ⟨(List.range w.heap.size).filter fun x => decide (base ≤ x), ⟨hb.mono (Nat.zero_le _), fun i hi hx => ?_⟩, fun x hx => ?_⟩
  · refine hb.block i ?_
    rw [List.mem_filter, List.mem_range] at hx
    rcases Nat.lt_or_ge i base with h | h
    · exact h
    · exact absurd ⟨hi, by simpa using h⟩ hx
  · rw [List.mem_filter, List.mem_range] at hx
    exact ⟨by simpa using hx.2, hx.1⟩
theorem RadW.belowAt (h : RadW P w b t) (hb : Below base w w') (hP : ∀ x, P x → x < base) : RadW P w' b t := by
  obtain ⟨X, hk, hX⟩ := keep_of hb
  exact h.keep hk fun x hx hm => by have := hP x hx; have := (hX x hm).1; omega
theorem RadW.lt (h : RadW P w b t) : b < w.heap.size := by
  cases h with | mk h1 => exact h1.lt
theorem RadW.old (h : RadW P w b t) : RadW (fun x => P x ∧ x < w.heap.size) w b t := h.mono fun x hx hl => ⟨hx, hl⟩
/-- one block is one tree -/
theorem Nod.same {base' : Nat} {u : RX} {kv' : Value} {bs' : List Nat} (h : Nod base w b t kv bs) (h' : Nod base' w b u kv' bs') : t.lab = u.lab ∧ t.val = u.val ∧ kv = kv' ∧ bs = bs' := by
  obtain ⟨o, lab, val, sh, hB, h1, h2⟩ := h.blk
  obtain ⟨o', lab', val', sh', hB', h1', h2'⟩ := h'.blk
  unfold Blk at hB hB'
  rw [hB] at hB'
  simp only [Option.some.injEq, Obj.cells.injEq, and_true, true_and, Array.mk.injEq, List.cons.injEq, Value.string.injEq, Value.bool.injEq] at hB'
  obtain ⟨e0, e1, e2, e3, e4, e5⟩ := hB'
  subst e4
  refine ⟨by rw [← h1, ← h1', e1], ?_, rfl, ?_⟩
  · rw [h2, h2'] at e2
    cases ht : t.val <;> cases hu : u.val <;> rw [ht, hu] at e2 e3 <;> simp at e2 e3 ⊢
    exact e2
  · have r1 := h.row
    have r2 := h'.row
    rcases r1.2 with ⟨e, hn⟩ | ⟨g, cap, cur, e, -, hc, -, -, -, hx⟩
    · rcases r2.2 with ⟨e', hn'⟩ | ⟨g, cap, cur, e', _⟩
      · rw [List.length_eq_zero_iff.1 hn, List.length_eq_zero_iff.1 hn']
      · rw [e] at e'; cases e'
    · rcases r2.2 with ⟨e', hn'⟩ | ⟨g', cap', cur', e', -, hc', -, -, -, hx'⟩
      · rw [e] at e'; cases e'
      · rw [e] at e'
        simp only [Value.slice.injEq, Option.some.injEq, Addr.mk.injEq, and_true, true_and] at e'
        obtain ⟨rfl, hl, -⟩ := e'
        rw [hc] at hc'
        simp only [Option.some.injEq, Obj.cells.injEq, and_true] at hc'
        obtain ⟨rfl, -⟩ := hc'
        rw [← hl, hx] at hx'
        unfold kcs at hx'
        exact (List.map_inj_right fun a b h => by simpa [at0] using h).1 hx'
theorem RadW.same {R : Nat → Prop} (h : RadW P w b t) : ∀ {u : RX}, RadW R w b u → t = u := by
  refine RadW.ind_ (Q := fun b t => ∀ {u : RX}, RadW R w b u → t = u) (fun b t kv bs h1 h2 h3 h4 ih u hu => ?_) h
  cases hu with
  | mk g1 g2 g3 g4 =>
    obtain ⟨e1, e2, rfl, rfl⟩ := h1.same g1
    refine RX.ext e1 e2 (List.ext_getElem? fun i => ?_)
    rcases Nat.lt_or_ge i t.kids.length with hi | hi
    · have hu : i < u.kids.length := by rw [← g1.len, h1.len]; exact hi
      have hb : i < bs.length := by rw [h1.len]; exact hi
      rw [List.getElem?_eq_getElem hi, List.getElem?_eq_getElem hu]
      exact congrArg some (ih i bs[i] _ (List.getElem?_eq_getElem hb) (List.getElem?_eq_getElem hi) (g4 i bs[i] _ (List.getElem?_eq_getElem hb) (List.getElem?_eq_getElem hu)))
    · rw [List.getElem?_eq_none hi, List.getElem?_eq_none (by rw [← g1.len, h1.len]; exact hi)]
theorem MineW.rad (h : MineW P base w b t) (hP : ∀ x, base ≤ x → P x) : RadW P w b t := by
  obtain ⟨kv, bs, h1, h2, h3⟩ := h.ex
  exact .mk (h1.base_ (Nat.zero_le _)) (hP _ h2) (fun g hg => hP _ (own_ge h1.row g hg)) fun i c k hc hk => (h3 i c k hc hk).mono fun x hx _ => hx.1
theorem MineW.base_ (h : MineW P base w b t) {c : Nat} (hc : c ≤ base) : MineW P c w b t := by
  obtain ⟨kv, bs, h1, h2, h3⟩ := h.ex
  exact ⟨kv, bs, h1.base_ hc, Nat.le_trans hc h2, h3⟩
theorem MineW.mono (h : MineW P base w b t) (hR : ∀ x, P x → x < w.heap.size → R x) : MineW R base w b t := by
  obtain ⟨kv, bs, h1, h2, h3⟩ := h.ex
  exact ⟨kv, bs, h1, h2, fun i c k hc hk => (h3 i c k hc hk).mono fun x hx hl => ⟨hR x hx.1 hl, hx.2⟩⟩
theorem MineW.below (h : MineW P base w b t) (hb : Below w.heap.size w w') : MineW P base w' b t := by
  obtain ⟨kv, bs, h1, h2, h3⟩ := h.ex
  exact ⟨kv, bs, h1.keep (Keep.of_below (X := []) hb) (by simp) (by simp), h2, fun i c k hc hk => (h3 i c k hc hk).stay hb⟩
end
/-- a token that is not live, or none -/
def DeadT (base : Nat) (w : World) (v : Value) : Prop := v = .pointer none ∨ ∃ t p id, v = at0 t ∧ Tok w t p id false ∧ t < base
theorem DeadT.below {base : Nat} {w w' : World} {v : Value} (h : DeadT base w v) (hb : Below base w w') : DeadT base w' v := by
  rcases h with h | ⟨t, p, id, h1, h2, h3⟩
  · exact .inl h
  · exact .inr ⟨t, p, id, h1, (hb.block t h3).trans h2, h3⟩
theorem DeadT.up {base c : Nat} {w : World} {v : Value} (h : DeadT base w v) (hc : base ≤ c) : DeadT c w v := by
  rcases h with h | ⟨t, p, id, h1, h2, h3⟩
  · exact .inl h
  · exact .inr ⟨t, p, id, h1, h2, by omega⟩
theorem DeadT.live {base : Nat} {w : World} {v : Value} (h : DeadT base w v) : Calls Try.prog 104 #[v] w fun e w' => e = .returned (.bool false) ∧ w = w' := by
  rcases h with rfl | ⟨t, p, id, rfl, h2, h3⟩
  · exact live_nil w
  · exact live_any t p id false w h2
theorem DeadT.form {base : Nat} {w : World} {v : Value} (h : DeadT base w v) : ∃ a, v = .pointer a := by
  rcases h with rfl | ⟨t, p, id, rfl, h2, h3⟩
  · exact ⟨_, rfl⟩
  · exact ⟨_, rfl⟩
end Go.Proofs.Ytimhdegdmdilaaa
/- The reference's Sorted. -/
namespace Go.Proofs.Ytimhdegdmdilaaa
open Go.RowKit Go.Lib
set_option linter.unusedVariables false
set_option maxRecDepth 100000
set_option maxRecDepth 100000
set_option linter.unusedSimpArgs false
set_option linter.unnecessarySimpa false
theorem sized_mem {L : List Pr} (h : ∀ x ∈ L, x.1.size ≤ maxLen) : Sized L := by
  intro j
  by_cases hj : j < L.length
  · have hm : pat L j ∈ L := by unfold pat; rw [List.getElem?_eq_getElem hj]; exact List.getElem_mem _
    exact h _ hm
  · unfold pat
    rw [List.getElem?_eq_none (by omega)]
    simp [maxLen]
theorem mem_sized {L : List Pr} (h : Sized L) : ∀ x ∈ L, x.1.size ≤ maxLen := by
  intro x hx
  obtain ⟨i, hi, e⟩ := List.getElem_of_mem hx
  have := h i
  unfold pat at this
  rw [List.getElem?_eq_getElem hi] at this
  simpa [e] using this
theorem insK_length (p : Pr) (D : List Pr) : (insK p D).length = D.length + 1 := by
  induction D with
  | nil => rfl
  | cons q r ih => unfold insK; split <;> simp [ih]
theorem putK_length (xs : List Pr) (p : Pr) : (putK xs p).length ≤ xs.length + 1 := by
  unfold putK
  rw [insK_length]
  have : (dropK xs p.1).length ≤ xs.length := List.length_filter_le _ _
  omega
theorem sized_put {xs : List Pr} {p : Pr} (h : Sized xs) (hp : p.1.size ≤ maxLen) : Sized (putK xs p) := by
  refine sized_mem fun x hx => ?_
  unfold putK at hx
  rcases (ins_mem p x _).1 hx with rfl | hx
  · exact hp
  · exact mem_sized h x ((drop_mem xs p.1 x).1 hx).1
theorem take_pat (xs : List Pr) (j : Nat) (h : j < xs.length) : xs.take (j + 1) = xs.take j ++ [pat xs j] := by
  rw [List.take_succ_eq_append_getElem h]
  simp [pat, h]
end Go.Proofs.Ytimhdegdmdilaaa
/- Where a key stands in a rising list: the binary search of package slices, Find of package pair, Find of the reference. -/
namespace Go.Proofs.Ytimhdegdmdilaaa
open Go.RowKit Go.Lib
set_option linter.unusedVariables false
set_option maxRecDepth 100000
set_option maxRecDepth 100000
set_option linter.unusedSimpArgs false
set_option linter.unnecessarySimpa false
/-- how many keys stand ahead of a key -/
def posK : List Pr → ByteArray → Nat
  | [], _ => 0
  | q :: r, k => if ltB q.1 k = true then posK r k + 1 else 0
/-- whether it is there -/
def isK (xs : List Pr) (k : ByteArray) : Bool := decide (posK xs k < xs.length ∧ (pat xs (posK xs k)).1 = k)
theorem posK_le (xs : List Pr) (k : ByteArray) : posK xs k ≤ xs.length := by
  induction xs with
  | nil => simp [posK]
  | cons q r ih => unfold posK; split <;> simp; exact ih
theorem pat_succ (q : Pr) (r : List Pr) (j : Nat) : pat (q :: r) (j + 1) = pat r j := by simp [pat]
theorem pat_zero (q : Pr) (r : List Pr) : pat (q :: r) 0 = q := by simp [pat]
theorem posK_lt (xs : List Pr) (k : ByteArray) (j : Nat) (h : j < posK xs k) : Lt (pat xs j).1 k := by
  induction xs generalizing j with
  | nil => simp [posK] at h
  | cons q r ih =>
    unfold posK at h
    split at h
    · rename_i hq
      cases j with
      | zero => rw [pat_zero]; exact (ltB_iff _ _).1 hq
      | succ j => rw [pat_succ]; exact ih j (by omega)
    · omega
theorem posK_not (xs : List Pr) (k : ByteArray) (h : posK xs k < xs.length) : ¬ Lt (pat xs (posK xs k)).1 k := by
  induction xs with
  | nil => simp at h
  | cons q r ih =>
    unfold posK at h ⊢
    split at h
    · rename_i hq
      rw [if_pos hq, pat_succ]
      exact ih (by simpa using h)
    · rename_i hq
      rw [if_neg hq, pat_zero]
      exact fun hl => hq ((ltB_iff _ _).2 hl)
theorem rises_at {xs : List Pr} (h : RisesL xs) {i j : Nat} (hij : i < j) (hj : j < xs.length) : Lt (pat xs i).1 (pat xs j).1 := by
  have := (List.pairwise_iff_getElem.1 h) i j (by omega) hj hij
  simpa [pat, hj, (by omega : i < xs.length)] using this
theorem posK_ge {xs : List Pr} (hr : RisesL xs) (k : ByteArray) (j : Nat) (h : posK xs k ≤ j) (hj : j < xs.length) : ¬ Lt (pat xs j).1 k := by
  rcases Nat.lt_or_eq_of_le h with h | h
  · exact fun hl => posK_not xs k (by omega) ((rises_at hr h hj).trans hl)
  · subst h; exact posK_not xs k hj
theorem isK_eq (xs : List Pr) (k : ByteArray) (h : posK xs k < xs.length) : isK xs k = (cmpS (pat xs (posK xs k)).1 k == 0) := by
  unfold isK
  by_cases e : (pat xs (posK xs k)).1 = k
  · rw [(cmpS_zero _ _).2 e]; simp [h, e]
  · have : cmpS (pat xs (posK xs k)).1 k ≠ 0 := fun h0 => e ((cmpS_zero _ _).1 h0)
    simp [e, this]
theorem isK_bytes (xs : List Pr) (k : ByteArray) (h : posK xs k < xs.length) : isK xs k = ((pat xs (posK xs k)).1.toList == k.toList) := by
  unfold isK
  by_cases e : (pat xs (posK xs k)).1 = k
  · simp [h, e]
  · have : (pat xs (posK xs k)).1.toList ≠ k.toList := fun h0 => e (bytes_ext (by rw [ByteArray.toList_eq, ByteArray.toList_eq] at h0; exact h0))
    simp [e, this]
theorem isK_end (xs : List Pr) (k : ByteArray) (h : ¬ posK xs k < xs.length) : isK xs k = false := by unfold isK; simp [h]
end Go.Proofs.Ytimhdegdmdilaaa
/- first, compare, place: where the child of a byte is. -/
namespace Go.Proofs.Ytimhdegdmdilaaa
open Go.RowKit Go.Lib
set_option linter.unusedVariables false
set_option maxRecDepth 100000
set_option linter.unusedSimpArgs false
set_option linter.unnecessarySimpa false
set_option maxRecDepth 100000
/-- the cells of a node -/
theorem Nod.cells {base : Nat} {w : World} {b : Nat} {t : RX} {kv : Value} {bs : List Nat} (h : Nod base w b t kv bs) : ∃ (o : Value) (lab val : ByteArray) (sh : Bool), lab.data.toList = t.lab ∧ val = t.val.getD ByteArray.empty ∧ Blk w b 132 #[o, .string lab, .string val, .bool t.val.isSome, kv, .bool sh] ∧
    (w.cell? ⟨b, 0, none⟩ = some o ∧ w.cell? ⟨b, 1, none⟩ = some (.string lab) ∧ w.cell? ⟨b, 2, none⟩ = some (.string val) ∧ w.cell? ⟨b, 3, none⟩ = some (.bool t.val.isSome) ∧ w.cell? ⟨b, 4, none⟩ = some kv ∧ w.cell? ⟨b, 5, none⟩ = some (.bool sh)) := by
  obtain ⟨o, lab, val, sh, hB, h1, h2⟩ := h.blk
  exact ⟨o, lab, val, sh, h1, h2, hB, hB.cell 0, hB.cell 1, hB.cell 2, hB.cell 3, hB.cell 4, hB.cell 5⟩
/-- the first byte as the program counts it -/
theorem first_any (P : Nat → Prop) (b : Nat) (t : RX) (w : World) (h : RadW P w b t) (hs : t.lab.length ≤ 1000) : Calls Try.prog 112 #[at0 b] w fun e w' => e = .returned (.int .i64 ((fst? t : Int) - 1)) ∧ w = w' := by
  cases h with
  | mk h1 =>
    obtain ⟨o, lab, val, sh, e1, e2, hB, c0, c1, c2, c3, c4, c5⟩ := h1.cells
    clear h1 hB
    unfold at0
    have hL : lab.size = t.lab.length := by rw [← e1, Array.length_toList]; rfl
    by_cases h0 : t.lab = []
    · have hz : lab = ByteArray.empty := bytes_ext (by rw [e1, h0]; rfl)
      have hf : fst? t = 0 := by unfold fst?; rw [h0]
      subst hz
      rw [hf]
      go_enter Try.func112, Try.ntmps112
      go_wp2_with fail
      go_ret
      exact ⟨rfl, rfl⟩
    · obtain ⟨a, r, hl⟩ := List.exists_cons_of_ne_nil h0
      have hz : (lab.toList == ([] : List UInt8)) = false := by
        have : lab.toList ≠ [] := fun e => h0 (by rw [← e1, ← ByteArray.toList_eq, e])
        simpa using this
      have hf : (fst? t : Int) - 1 = a.toNat := by rw [fst_cons hl]; omega
      have hpos : (0 : Int) < (lab.size : Int) := by rw [hL, hl]; simp only [List.length_cons]; omega
      have hget : lab[0]'(by omega) = a := by
        have : lab.data.toList[0]? = some a := by rw [e1, hl]; rfl
        rw [List.getElem?_eq_some_iff] at this
        exact this.2
      rw [hf]
      clear hf
      go_enter Try.func112, Try.ntmps112
      go_wp2_with fail
      go_ret
      refine ⟨?_, rfl⟩
      show Ending.returned (.int .i64 (wrap64 (a.toNat : Int))) = _
      have ha := a.toNat_lt
      rw [IntWalk.wrap64_in _ ⟨by omega, by omega⟩]
theorem isnan_any (x : Int) (w : World) : Calls Try.prog 118 #[.int .i64 x] w fun e w' => e = .returned (.bool false) ∧ w = w' := by
  go_enter Try.func118, Try.ntmps118
  go_wp2_with fail
  go_ret
  simp
def cmpI (x y : Int) : Int := if x < y then -1 else if y < x then 1 else 0
theorem compareI (x y : Int) (w : World) : Calls Try.prog 111 #[.int .i64 x, .int .i64 y] w fun e w' => e = .returned (.int .i64 (cmpI x y)) ∧ w = w' := by
  unfold cmpI
  by_cases h1 : x < y
  · rw [if_pos h1]
    go_enter Try.func111, Try.ntmps111
    go_wp2_with fail
    refine (isnan_any x _).mono ?_
    rintro e w' ⟨rfl, rfl⟩
    go_wp2_with fail
    refine (isnan_any y _).mono ?_
    rintro e w' ⟨rfl, rfl⟩
    go_wp2_with fail
    go_ret
    exact ⟨rfl, rfl⟩
  · rw [if_neg h1]
    by_cases h2 : y < x
    · rw [if_pos h2]
      go_enter Try.func111, Try.ntmps111
      go_wp2_with fail
      refine (isnan_any x _).mono ?_
      rintro e w' ⟨rfl, rfl⟩
      go_wp2_with fail
      refine (isnan_any y _).mono ?_
      rintro e w' ⟨rfl, rfl⟩
      go_wp2_with fail
      go_ret
      exact ⟨rfl, rfl⟩
    · rw [if_neg h2]
      go_enter Try.func111, Try.ntmps111
      go_wp2_with fail
      refine (isnan_any x _).mono ?_
      rintro e w' ⟨rfl, rfl⟩
      go_wp2_with fail
      refine (isnan_any y _).mono ?_
      rintro e w' ⟨rfl, rfl⟩
      go_wp2_with fail
      go_ret
      exact ⟨rfl, rfl⟩
theorem closure_any (P : Nat → Prop) (b : Nat) (t : RX) (y : Int) (w : World) (h : RadW P w b t) (hs : t.lab.length ≤ 1000) : Calls Try.prog 110 #[at0 b, .int .i64 y] w fun e w' => e = .returned (.int .i64 (cmpI ((fst? t : Int) - 1) y)) ∧ w = w' := by
  have k := first_any P b t w h hs
  clear h
  go_enter Try.func110, Try.ntmps110
  go_wp2_with fail
  refine k.mono ?_
  rintro e w' ⟨rfl, rfl⟩
  go_wp2_with fail
  refine (compareI _ _ _).mono ?_
  rintro e w' ⟨rfl, rfl⟩
  go_wp2_with fail
  go_ret
  exact ⟨rfl, rfl⟩
/-- how many kids come ahead of a byte's -/
def posR : List RX → Nat → Nat
  | [], _ => 0
  | k :: ks, n => if fst? k < n then posR ks n + 1 else 0
def rat (ks : List RX) (j : Nat) : RX := ks.getD j (.node [] none [])
theorem rat_get {ks : List RX} {j : Nat} (h : j < ks.length) : ks[j]? = some (rat ks j) := by
  unfold rat; rw [List.getD_eq_getElem?_getD, List.getElem?_eq_getElem h]; rfl
def isR (ks : List RX) (n : Nat) : Bool := decide (posR ks n < ks.length ∧ fst? (rat ks (posR ks n)) = n)
theorem posR_le (ks : List RX) (n : Nat) : posR ks n ≤ ks.length := by
  induction ks with
  | nil => simp [posR]
  | cons k ks ih => simp only [posR]; split <;> simp <;> omega
theorem posR_lt (ks : List RX) (n j : Nat) (h : j < posR ks n) : fst? (rat ks j) < n := by
  induction ks generalizing j with
  | nil => simp [posR] at h
  | cons k ks ih =>
    simp only [posR] at h
    split at h
    · cases j with
      | zero => simpa [rat]
      | succ j => simpa [rat] using ih j (by omega)
    · omega
theorem posR_not (ks : List RX) (n : Nat) (h : posR ks n < ks.length) : ¬ fst? (rat ks (posR ks n)) < n := by
  induction ks with
  | nil => simp at h
  | cons k ks ih =>
    simp only [posR] at h ⊢
    split
    · rename_i hlt
      rw [if_pos hlt] at h
      simpa [rat] using ih (by simpa using h)
    · rename_i hlt; simpa [rat] using hlt
theorem posR_ge {ks : List RX} (hr : ks.Pairwise (fun a b => fst? a < fst? b)) (n j : Nat) (h : posR ks n ≤ j) (hj : j < ks.length) : ¬ fst? (rat ks j) < n := by
  have h0 := posR_not ks n (by omega)
  rcases Nat.lt_or_eq_of_le h with h | h
  · have h1 := rat_get (ks := ks) (show posR ks n < ks.length by omega)
    have h2 := rat_get hj
    rw [List.pairwise_iff_getElem] at hr
    have := hr _ _ (by omega) hj h
    rw [List.getElem?_eq_some_iff] at h1 h2
    obtain ⟨_, h1⟩ := h1
    obtain ⟨_, h2⟩ := h2
    rw [h1, h2] at this
    omega
  · rw [← h]; exact h0
def fn83 : Value := .func (.func 110) #[] #[]
/-- the cells of a row of children -/
theorem OwnK.at_ {w : World} {base : Nat} {kv : Value} {bs : List Nat} (h : OwnK base w kv bs) (j : Nat) (hj : j < bs.length) : ∃ g c, kv = .slice (some ⟨g, 0, none⟩) bs.length c ∧ w.cell? ⟨g, j, none⟩ = some (at0 (bs.getD j 0)) := by
  obtain ⟨g, cap, cur, e, -⟩ := own_blk h (by omega)
  subst e
  refine ⟨g, cap, rfl, ?_⟩
  have := World.ownsRow.cellAt h j (by omega)
  rw [this]
  unfold kcs
  rw [List.getElem?_map, List.getElem?_eq_getElem hj, List.getD_eq_getElem?_getD, List.getElem?_eq_getElem hj]; rfl
theorem OwnK.stay {base : Nat} {w w' : World} {v : Value} {xs : List Nat} (h : OwnK base w v xs) (hb : Below w.heap.size w w') : OwnK base w' v xs := own_keep h (Keep.of_below (X := []) hb) (by simp)
set_option maxHeartbeats 8000000 in
theorem bsearchK (P : Nat → Prop) (base : Nat) (kv : Value) (bs : List Nat) (ks : List RX) (x : Nat) (w : World) (hO : OwnK base w kv bs) (hl : bs.length = ks.length) (hk : ∀ (i c : Nat) (k : RX), bs[i]? = some c → ks[i]? = some k → RadW P w c k)
    (hn : ks.length ≤ 1000) (hr : ks.Pairwise (fun a b => fst? a < fst? b)) (hs : ∀ k ∈ ks, k.lab.length ≤ 1000) (hx : x ≤ 256) :
    Calls Try.prog 109 #[kv, .int .i64 x, fn83] w fun e w' => e = .returned (.tuple #[.int .i64 (posR ks (x + 1)), .bool (isR ks (x + 1))]) ∧ Below w.heap.size w w' := by
  obtain ⟨N, hN⟩ : ∃ N, N = ks.length := ⟨_, rfl⟩
  obtain ⟨Q, hQ⟩ : ∃ Q, Q = posR ks (x + 1) := ⟨_, rfl⟩
  have hQN : Q ≤ N := by rw [hQ, hN]; exact posR_le _ _
  obtain ⟨A, c, hkv⟩ : ∃ A c, kv = .slice A N c := by
    rcases hO.2 with ⟨e, h0⟩ | ⟨g, cap, cur, e, _⟩
    · exact ⟨none, 0, by rw [e, hN, ← hl, h0]⟩
    · exact ⟨_, _, by rw [e, hN, hl]⟩
  subst hkv
  rw [← hQ]
  have hn' : N ≤ 1000 := by omega
  have HN := Lib.hid hN
  have HQ := Lib.hid hQ
  have HO := Lib.hid hO
  have HK := Lib.hid hk
  have HS := Lib.hid hr
  have HL := Lib.hid hs
  have HB := Lib.hid hl
  have hcall : ∀ j, j < N → ∀ wr, Below w.heap.size w wr → (∃ g c, A = some ⟨g, 0, none⟩ ∧ wr.cell? ⟨g, j, none⟩ = some (at0 (bs.getD j 0))) ∧ Calls Try.prog 110 #[at0 (bs.getD j 0), .int .i64 x] wr fun e w' => e = .returned (.int .i64 (cmpI ((fst? (rat ks j) : Int) - 1) x)) ∧ wr = w' := fun j hj wr hB => by
    have hjb : j < bs.length := by rw [hl, ← hN]; exact hj
    obtain ⟨g, c, e, h⟩ := (hO.stay hB).at_ j hjb
    refine ⟨⟨g, c, by simpa using congrArg (fun v : Value => match v with | .slice a _ _ => a | _ => none) e, h⟩, ?_⟩
    have hb2 : bs[j]? = some (bs.getD j 0) := by rw [List.getD_eq_getElem?_getD, List.getElem?_eq_getElem hjb]; rfl
    have hk2 := rat_get (ks := ks) (j := j) (by omega)
    exact closure_any P _ _ _ _ ((hk j _ _ hb2 hk2).stay hB) (hs _ (List.mem_of_getElem? hk2))
  clear hN hQ hO hk hr hs hl hn
  unfold fn83
  go_enter Try.func109, Try.ntmps109
  go_wp2_with fail
  go_loopw [9, 10] (fun vi vj wr => ∃ (i j : Nat), vi = .int .i64 i ∧ vj = .int .i64 j ∧ i ≤ Q ∧ Q ≤ j ∧ j ≤ N ∧ Below w.heap.size w wr) (fun vi vj wr => (intOf vj).toNat - (intOf vi).toNat)
  case atStart => exact ⟨0, N, rfl, rfl, Nat.zero_le _, hQN, Nat.le_refl _, Below.refl _ _⟩
  case round =>
    obtain ⟨i, j, rfl, rfl, hi, hij, hj, hB⟩ := hrel
    by_cases hlt : i < j
    · obtain ⟨h, hh⟩ : ∃ h, h = (i + j) / 2 := ⟨_, rfl⟩
      have B1 : i ≤ h ∧ h < j := by omega
      have E1 : IntKind.i64.wrap ((i : Int) + (j : Int)) = (i : Int) + (j : Int) := IntWalk.i64_in _ (by omega)
      have E2 : ((i : Int) + (j : Int)) / 2 = (h : Int) := by omega
      have E3 : IntKind.i64.wrap ((h : Int) + 1) = ((h + 1 : Nat) : Int) := by rw [IntWalk.i64_in _ (by omega)]; omega
      clear hh
      obtain ⟨⟨g, c', rfl, c0⟩, hc⟩ := hcall h (by omega) _ hB
      unfold at0 at c0
      have B2 : (h : Int) < (N : Int) := by omega
      have hge := posR_ge HS.out (x + 1) h
      have hlt' := posR_lt ks (x + 1) h
      rw [← HQ.out] at hge hlt'
      rw [← HN.out] at hge
      unfold at0 at hc
      generalize fst? (rat ks h) = F at *
      generalize bs.getD h 0 = kb at *
      clear hcall
      by_cases hcmp : F < x + 1
      · have S : h + 1 ≤ Q := by
          rcases Nat.lt_or_ge h Q with q | q
          · exact q
          · exact absurd hcmp (hge q (by omega))
        have hcv : cmpI ((F : Int) - 1) x = -1 := by unfold cmpI; rw [if_pos (by omega)]
        rw [hcv] at hc
        clear hge hlt' hcv
        go_wp2_with fail
        refine hc.mono ?_
        rintro e w1 ⟨rfl, rfl⟩
        go_wp2_with fail
        refine ⟨⟨h + 1, j, by go_num, rfl, S, hij, hj, hB⟩, ?_⟩
        simp [intOf]; omega
      · have S : Q ≤ h := by
          rcases Nat.lt_or_ge h Q with q | q
          · exact absurd (hlt' q) hcmp
          · exact q
        have hcv : ¬ (cmpI ((F : Int) - 1) x < 0) := by
          unfold cmpI
          rw [if_neg (by omega)]
          split <;> omega
        clear hge hlt'
        generalize cmpI ((F : Int) - 1) x = cv at *
        go_wp2_with fail
        refine hc.mono ?_
        rintro e w1 ⟨rfl, rfl⟩
        go_wp2_with fail
        refine ⟨⟨i, h, rfl, rfl, hi, S, by omega, hB⟩, ?_⟩
        simp [intOf]; omega
    · obtain rfl : i = Q := by omega
      by_cases hend : i < N
      · obtain ⟨⟨g, c', rfl, c0⟩, hc⟩ := hcall i hend _ hB
        unfold at0 at c0
        have B2 : (i : Int) < (N : Int) := by omega
        have HI := Lib.hid (show isR ks (x + 1) = (cmpI ((fst? (rat ks i) : Int) - 1) x == 0) by
          have hq := posR_not ks (x + 1)
          unfold isR
          rw [← HQ.out, ← HN.out] at *
          have := hq hend
          unfold cmpI
          by_cases e : fst? (rat ks i) = x + 1
          · simp [e, hend]
          · have h1 : ¬ ((fst? (rat ks i) : Int) - 1 < x) := by omega
            have h2 : (x : Int) < (fst? (rat ks i) : Int) - 1 := by omega
            simp [e, h1, h2])
        unfold at0 at hc
        clear hcall
        generalize fst? (rat ks i) = F at *
        generalize bs.getD i 0 = kb at *
        generalize cmpI ((F : Int) - 1) x = cv at *
        go_wp2_with fail
        refine hc.mono ?_
        rintro e w1 ⟨rfl, rfl⟩
        go_wp2_with fail
        go_ret2
        rw [HI.out]
        exact ⟨rfl, hB⟩
      · have HI := Lib.hid (show isR ks (x + 1) = false by unfold isR; rw [← HQ.out, ← HN.out]; simp [hend])
        have B2 : ¬ ((i : Int) < (N : Int)) := by omega
        clear hcall
        go_wp2_with fail
        go_ret2
        rw [HI.out]
        exact ⟨rfl, hB⟩
/-- where the child is whose label begins with a byte -/
theorem place_any (P : Nat → Prop) (base b : Nat) (t : RX) (kv : Value) (bs : List Nat) (x : UInt8) (w : World) (h : Nod base w b t kv bs) (hk : ∀ (i c : Nat) (k : RX), bs[i]? = some c → t.kids[i]? = some k → RadW P w c k)
    (hc : Can t) (hs : ∀ k ∈ t.kids, k.lab.length ≤ 1000) :
    Calls Try.prog 95 #[at0 b, .int .u8 x.toNat] w fun e w' => e = .returned (.tuple #[.int .i64 (posR t.kids (x.toNat + 1)), .bool (isR t.kids (x.toNat + 1))]) ∧ Below w.heap.size w w' := by
  have hx := x.toNat_lt
  have k := bsearchK P base kv bs t.kids x.toNat w h.row h.len hk (by have := kids_few hc; omega) hc.rises hs (by omega)
  obtain ⟨o, lab, val, sh, e1, e2, hB, c0, c1, c2, c3, c4, c5⟩ := h.cells
  obtain ⟨A, n, c, hkv⟩ : ∃ A n c, kv = .slice A n c := by
    rcases h.row.2 with ⟨e, _⟩ | ⟨g, cap, cur, e, _⟩
    · exact ⟨_, _, _, e⟩
    · exact ⟨_, _, _, e⟩
  subst hkv
  have hw : IntKind.i64.wrap (x.toNat : Int) = x.toNat := IntWalk.i64_in _ (by omega)
  clear h hB hk hc hs e1 e2
  generalize posR t.kids (x.toNat + 1) = Q at *
  generalize isR t.kids (x.toNat + 1) = I at *
  generalize x.toNat = X at *
  unfold fn83 at k
  unfold at0
  go_enter Try.func95, Try.ntmps95
  go_wp2_with fail
  refine k.mono ?_
  rintro e w' ⟨rfl, hB⟩
  go_wp2_with fail
  go_ret2
  exact ⟨rfl, hB⟩
end Go.Proofs.Ytimhdegdmdilaaa
