/- Take of the reference: the region that appends to two lists, in any order. -/
import Derived.Test.YtfipifjlmepooaaTu
namespace Go.Proofs.Ytfipifjlmepooaa
open Go.RowKit Go.Conc
set_option linter.unusedVariables false
set_option linter.unusedSimpArgs false
theorem blk_lt {w : World} {b : Nat} {o : Obj} (h : w.heap[b]? = some o) : b < w.heap.size := by
  rcases Nat.lt_or_ge b w.heap.size with hlt | hge
  · exact hlt
  · rw [Array.getElem?_eq_none hge] at h; cases h
theorem late_no {b : Bool} {p : Prop} (h : b = true) : b = false → p := fun e => by rw [h] at e; cases e
set_option maxRecDepth 100000 in
set_option maxHeartbeats 4000000 in
theorem refTake_none (base x N : Nat) (vr vl vi : Value) (lv : List Bool) (is : List Nat) (w : World) (h : RefP base w x N vr vl vi [] lv is) :
    Calls Try.prog 34 #[at0 x] w fun e w' => e = .returned (.tuple #[.int .i64 0, .int .i64 6]) ∧ w = w' := by
  obtain ⟨⟨k1, k2, k3⟩, f1, f2, f3⟩ := h.cells
  obtain ⟨A, c, rfl, hc⟩ := own_form h.row
  clear h
  unfold at0
  rw [List.length_nil] at k1 hc
  go_enter Try.func34, Try.ntmps34
  go_wp2_with fail
  go_ret2
  exact ⟨rfl, rfl⟩

set_option maxRecDepth 100000 in
set_option maxHeartbeats 16000000 in
theorem refTake_some (base x N : Nat) (vr vl vi : Value) (i : Nat) (q' : List Nat) (lv : List Bool) (is : List Nat) (w : World) (h : RefP base w x N vr vl vi (i :: q') lv is) (hl : lv.length ≤ 1000) (hi : is.length ≤ 1000) (hq : q'.length ≤ 1000) :
    Calls Try.prog 34 #[at0 x] w fun e w' => ∃ vr' vl' vi', e = .returned (.tuple #[.int .i64 is.length, .int .i64 0]) ∧ RefP base w' x N vr' vl' vi' q' (lv ++ [true]) (is ++ [i]) ∧ KeepR base w w' := by
  obtain ⟨i3, hi3, hz30, hz31, hz32⟩ := info_parts info3
  obtain ⟨i4, hi4, hz40, hz41, hz42⟩ := info_parts info4
  obtain ⟨n, hn⟩ : ∃ n, n = (i :: q').length := ⟨_, rfl⟩
  obtain ⟨gr, cr, rfl⟩ : ∃ gr cr, vr = .slice (some ⟨gr, 0, none⟩) n cr := by
    have := h.row
    rw [List.length_cons] at this
    obtain ⟨g, c, e⟩ := own_succ this
    exact ⟨g, c, by rw [e, hn]; rfl⟩
  have hncr : n ≤ cr := by
    have h1 := h.row
    rcases h1.2 with ⟨e, _⟩ | ⟨g, c, cur, e, _, _, hc, _⟩
    · cases e
    · simp at e; simp only [List.length_cons] at hn hc; omega
  have B1 : (0 : Int) < (n : Int) := by rw [hn]; simp only [List.length_cons]; omega
  have B2 : 0 < n := by omega
  have B3 : ¬ (n = 0) := by omega
  have HN := Lib.hid hn
  have hnq : Hid (n - 1 = q'.length) := Lib.hid (by rw [hn]; simp)
  have hn1 : n ≤ 1001 := by rw [hn]; simp only [List.length_cons]; omega
  obtain ⟨⟨k1, k2, k3⟩, f1, f2, f3⟩ := h.cells
  have hG : RefG base w.drew x N _ vl vi _ vl vi (i :: q') lv is := h.g.drew
  have hk : KeepR base w w.drew := (KeepR.refl base w).drew
  have hbs : base ≤ w.heap.size := hG.base_le
  have hS := hG.S HN.out
  unfold at0
  clear hn h
  go_enter Try.func34, Try.ntmps34
  go_wp2_with fail
  refine wp_region_late (S := fun w' => w'.cell? ⟨x, 1, none⟩ = some (.slice (some ⟨gr, 0, none⟩) n cr) ∧ w'.cell? ⟨x, 2, none⟩ = some vl ∧ w'.cell? ⟨x, 3, none⟩ = some vi ∧ w'.cell? ⟨gr, 0, none⟩ = some (.int .i64 i)) (st := 22) (by kernel_rfl) ?_
  clear k1 k2 k3 f1 f2 f3
  generalize w.drew = W at *
  refine wpAnyL_take0 (i := 0) (oi := { dst := some 10, op := Go.Op.move (Go.Operand.tmp 0), type := 54, pos := "ref.go:28", after := #[], guard := none }) (v := .pointer (some ⟨x, 0, none⟩)) rfl (by kernel_rfl) (by kernel_rfl) (by kernel_rfl) (by kernel_rfl) (fun _ _ _ h => h) hS (Or.inl ⟨by rfl, fun w hSw => ?_⟩) ?_
  · go_split_ands
    go_simp
  try simp only [Act.put, List.setIfInBounds_toArray, List.set_cons_zero, List.set_cons_succ]
  refine wpAnyL_take0 (i := 1) (oi := { dst := some 11, op := Go.Op.move (Go.Operand.tmp 0), type := 54, pos := "ref.go:28", after := #[{ on := 22, ground := Go.Ground.gcOnly Go.Departure.lateStores }], guard := none }) (v := .pointer (some ⟨x, 0, none⟩)) rfl (by kernel_rfl) (by kernel_rfl) (by kernel_rfl) (by kernel_rfl) (fun _ _ _ h => h) hS (Or.inl ⟨by rfl, fun w hSw => ?_⟩) ?_
  · go_split_ands
    go_simp
  try simp only [Act.put, List.setIfInBounds_toArray, List.set_cons_zero, List.set_cons_succ]
  refine wpAnyL_take0 (i := 2) (oi := { dst := some 12, op := Go.Op.move (Go.Operand.tmp 0), type := 54, pos := "ref.go:28", after := #[], guard := none }) (v := .pointer (some ⟨x, 0, none⟩)) rfl (by kernel_rfl) (by kernel_rfl) (by kernel_rfl) (by kernel_rfl) (fun _ _ _ h => h) hS (Or.inl ⟨by rfl, fun w hSw => ?_⟩) ?_
  · go_split_ands
    go_simp
  try simp only [Act.put, List.setIfInBounds_toArray, List.set_cons_zero, List.set_cons_succ]
  refine wpAnyL_take0 (i := 3) (oi := { dst := some 13, op := Go.Op.nilCheck (Go.Operand.tmp 12), type := 0, pos := "ref.go:28", after := #[{ on := 2, ground := Go.Ground.data }], guard := none }) (v := .pointer (some ⟨x, 0, none⟩)) rfl (by kernel_rfl) (by kernel_rfl) (by kernel_rfl) (by kernel_rfl) (fun _ _ _ h => h) hS (Or.inl ⟨by rfl, fun w hSw => ?_⟩) ?_
  · go_split_ands
    go_simp
  try simp only [Act.put, List.setIfInBounds_toArray, List.set_cons_zero, List.set_cons_succ]
  refine wpAnyL_take0 (i := 4) (oi := { dst := some 14, op := Go.Op.fieldAddr 66 (Go.Operand.tmp 13) 3, type := 0, pos := "ref.go:28", after := #[{ on := 3, ground := Go.Ground.data }], guard := none }) (v := .pointer (some ⟨x, 3, none⟩)) rfl (by kernel_rfl) (by kernel_rfl) (by kernel_rfl) (by kernel_rfl) (fun _ _ _ h => h) hS (Or.inl ⟨by rfl, fun w hSw => ?_⟩) ?_
  · go_split_ands
    go_simp
  try simp only [Act.put, List.setIfInBounds_toArray, List.set_cons_zero, List.set_cons_succ]
  refine wpAnyL_take (i := 5) (oi := { dst := some 15, op := Go.Op.load 63 (Go.Operand.tmp 14), type := 63, pos := "ref.go:28", after := #[{ on := 4, ground := Go.Ground.data }], guard := none }) (v := vi) rfl (by kernel_rfl) (by kernel_rfl) (by kernel_rfl) (by kernel_rfl) (fun _ _ _ h => h) hS (Or.inl ⟨by rfl, fun w hSw => ?_⟩) ?_
  · go_split_ands
    go_simp
  try simp only [Act.put, List.setIfInBounds_toArray, List.set_cons_zero, List.set_cons_succ]
  refine wpAnyL_take0 (i := 6) (oi := { dst := some 16, op := Go.Op.move (Go.Operand.tmp 0), type := 54, pos := "ref.go:28", after := #[], guard := none }) (v := .pointer (some ⟨x, 0, none⟩)) rfl (by kernel_rfl) (by kernel_rfl) (by kernel_rfl) (by kernel_rfl) (fun _ _ _ h => h) hS (Or.inl ⟨by rfl, fun w hSw => ?_⟩) ?_
  · go_split_ands
    go_simp
  try simp only [Act.put, List.setIfInBounds_toArray, List.set_cons_zero, List.set_cons_succ]
  refine wpAnyL_take0 (i := 7) (oi := { dst := some 17, op := Go.Op.nilCheck (Go.Operand.tmp 16), type := 0, pos := "ref.go:28", after := #[{ on := 6, ground := Go.Ground.data }], guard := none }) (v := .pointer (some ⟨x, 0, none⟩)) rfl (by kernel_rfl) (by kernel_rfl) (by kernel_rfl) (by kernel_rfl) (fun _ _ _ h => h) hS (Or.inl ⟨by rfl, fun w hSw => ?_⟩) ?_
  · go_split_ands
    go_simp
  try simp only [Act.put, List.setIfInBounds_toArray, List.set_cons_zero, List.set_cons_succ]
  refine wpAnyL_take0 (i := 8) (oi := { dst := some 18, op := Go.Op.fieldAddr 66 (Go.Operand.tmp 17) 1, type := 0, pos := "ref.go:28", after := #[{ on := 7, ground := Go.Ground.data }], guard := none }) (v := .pointer (some ⟨x, 1, none⟩)) rfl (by kernel_rfl) (by kernel_rfl) (by kernel_rfl) (by kernel_rfl) (fun _ _ _ h => h) hS (Or.inl ⟨by rfl, fun w hSw => ?_⟩) ?_
  · go_split_ands
    go_simp
  try simp only [Act.put, List.setIfInBounds_toArray, List.set_cons_zero, List.set_cons_succ]
  refine wpAnyL_take (i := 9) (oi := { dst := some 19, op := Go.Op.load 63 (Go.Operand.tmp 18), type := 63, pos := "ref.go:28", after := #[{ on := 8, ground := Go.Ground.data }], guard := none }) (v := .slice (some ⟨gr, 0, none⟩) n cr) rfl (by kernel_rfl) (by kernel_rfl) (by kernel_rfl) (by kernel_rfl) (fun _ _ _ h => h) hS (Or.inl ⟨by rfl, fun w hSw => ?_⟩) ?_
  · go_split_ands
    go_simp
  try simp only [Act.put, List.setIfInBounds_toArray, List.set_cons_zero, List.set_cons_succ]
  refine wpAnyL_take0 (i := 10) (oi := { dst := some 20, op := Go.Op.indexAddr 63 (Go.Operand.tmp 19) (Go.Operand.const (Go.Value.int Go.IntKind.i64 0)), type := 0, pos := "ref.go:28", after := #[{ on := 9, ground := Go.Ground.data }], guard := none }) (v := .pointer (some ⟨gr, 0, none⟩)) rfl (by kernel_rfl) (by kernel_rfl) (by kernel_rfl) (by kernel_rfl) (fun _ _ _ h => h) hS (Or.inl ⟨by rfl, fun w hSw => ?_⟩) ?_
  · go_split_ands
    go_simp
  try simp only [Act.put, List.setIfInBounds_toArray, List.set_cons_zero, List.set_cons_succ]
  refine wpAnyL_take (i := 11) (oi := { dst := some 21, op := Go.Op.load 3 (Go.Operand.tmp 20), type := 3, pos := "ref.go:28", after := #[{ on := 10, ground := Go.Ground.data }], guard := none }) (v := .int .i64 i) rfl (by kernel_rfl) (by kernel_rfl) (by kernel_rfl) (by kernel_rfl) (fun _ _ _ h => h) hS (Or.inl ⟨by rfl, fun w hSw => ?_⟩) ?_
  · go_split_ands
    go_simp
  try simp only [Act.put, List.setIfInBounds_toArray, List.set_cons_zero, List.set_cons_succ]
  refine wpAnyL_take0 (i := 14) (oi := { dst := some 24, op := Go.Op.move (Go.Operand.tmp 0), type := 54, pos := "ref.go:28", after := #[], guard := none }) (v := .pointer (some ⟨x, 0, none⟩)) rfl (by kernel_rfl) (by kernel_rfl) (by kernel_rfl) (by kernel_rfl) (fun _ _ _ h => h) hS (Or.inl ⟨by rfl, fun w hSw => ?_⟩) ?_
  · go_split_ands
    go_simp
  try simp only [Act.put, List.setIfInBounds_toArray, List.set_cons_zero, List.set_cons_succ]
  refine wpAnyL_take0 (i := 15) (oi := { dst := some 25, op := Go.Op.nilCheck (Go.Operand.tmp 24), type := 0, pos := "ref.go:28", after := #[{ on := 14, ground := Go.Ground.data }], guard := none }) (v := .pointer (some ⟨x, 0, none⟩)) rfl (by kernel_rfl) (by kernel_rfl) (by kernel_rfl) (by kernel_rfl) (fun _ _ _ h => h) hS (Or.inl ⟨by rfl, fun w hSw => ?_⟩) ?_
  · go_split_ands
    go_simp
  try simp only [Act.put, List.setIfInBounds_toArray, List.set_cons_zero, List.set_cons_succ]
  refine wpAnyL_take0 (i := 16) (oi := { dst := some 26, op := Go.Op.fieldAddr 66 (Go.Operand.tmp 25) 2, type := 0, pos := "ref.go:28", after := #[{ on := 15, ground := Go.Ground.data }], guard := none }) (v := .pointer (some ⟨x, 2, none⟩)) rfl (by kernel_rfl) (by kernel_rfl) (by kernel_rfl) (by kernel_rfl) (fun _ _ _ h => h) hS (Or.inl ⟨by rfl, fun w hSw => ?_⟩) ?_
  · go_split_ands
    go_simp
  try simp only [Act.put, List.setIfInBounds_toArray, List.set_cons_zero, List.set_cons_succ]
  refine wpAnyL_take (i := 17) (oi := { dst := some 27, op := Go.Op.load 64 (Go.Operand.tmp 26), type := 64, pos := "ref.go:28", after := #[{ on := 16, ground := Go.Ground.data }], guard := none }) (v := vl) rfl (by kernel_rfl) (by kernel_rfl) (by kernel_rfl) (by kernel_rfl) (fun _ _ _ h => h) hS (Or.inl ⟨by rfl, fun w hSw => ?_⟩) ?_
  · go_split_ands
    go_simp
  try simp only [Act.put, List.setIfInBounds_toArray, List.set_cons_zero, List.set_cons_succ]
  refine wpAnyL_ready (rs := [12, 18]) (by kernel_rfl) (by simp) ?_
  refine AllReadyL.cons (o := { dst := some 22, op := Go.Op.buildSlice 63 1 #[(0, Go.Operand.tmp 21)], type := 63, pos := "ref.go:28", after := #[{ on := 11, ground := Go.Ground.data }], guard := none }) rfl (fun K hK => ?_) ?_
  · go_simp
    have hG2 := hG.alloc (.cells #[.int .i64 (i : Int)] 3)
    have hk2 := hk.alloc hbs (.cells #[.int .i64 (i : Int)] 3)
    have n12 : (W.alloc (.cells #[.int .i64 (i : Int)] 3)).heap[W.heap.size]? = some (.cells #[.int .i64 (i : Int)] 3 (0, 0)) := heap_alloc_new W _
    skip
    refine hK.out _ _ (fun _ => hG2.S HN.out) ?_
    clear hK K hS hG hk
    try simp only [Act.put, List.setIfInBounds_toArray, List.set_cons_zero, List.set_cons_succ]
    generalize W.alloc (.cells #[.int .i64 (i : Int)] 3) = Wa at *
    generalize W.heap.size = B12 at *
    have hG := hG2
    have hk := hk2
    have hS := hG.S HN.out
    clear hG2 hk2
    refine wpAnyL_ready (rs := [13, 18]) (by kernel_rfl) (by simp) ?_
    refine AllReadyL.cons (o := { dst := some 23, op := Go.Op.call { callee := Go.Callee.builtin Go.Builtin.append, args := #[Go.Operand.tmp 15, Go.Operand.tmp 22], argTypes := #[63, 63] }, type := 63, pos := "ref.go:28", after := #[{ on := 5, ground := Go.Ground.data }, { on := 12, ground := Go.Ground.data }], guard := none }) rfl (fun K hK => ?_) ?_
    · refine step_append_lies _ (by rfl) _ _ _ (by rfl) base 3 i3 _ 1 8 Try.underlying63 hi3 hz30 hz31 hz32 rfl (by decide) vi is.length (nums is) (by rfl) hG.ids ⟨B12, 0, none⟩ 1 1 [.int .i64 (i : Int)] (by rfl) rfl (World.news_of_block n12) (by simp [Value.oneCell']) (by omega) (by unfold maxLen; omega) (by omega) hG.base_le _ rfl ?_
      intro g1 cap1 W2 hown1 hgrow1 hat1 hlt1
      have hG2 := hG.grownIds (is' := is ++ [i]) hgrow1 (by rw [List.length_append, nums_snoc]; exact hown1) (fun g hg => by
        cases hg
        rcases hat1 with e | e
        · exact .inl e
        · exact .inr (Nat.le_of_eq e.symm))
      have hk2 := hk.grown hG.ids (.inl rfl) hG.base_le hgrow1
      skip
      refine hK.out _ _ (fun _ => hG2.S HN.out) ?_
      clear hK K hS hgrow1 hat1 hlt1 hown1 n12 hG hk
      try simp only [Act.put, List.setIfInBounds_toArray, List.set_cons_zero, List.set_cons_succ]
      have hG := hG2
      have hk := hk2
      have hS := hG.S HN.out
      clear hG2 hk2
      refine wpAnyL_ready (rs := [18]) (by kernel_rfl) (by simp) ?_
      refine AllReadyL.cons (o := { dst := some 28, op := Go.Op.buildSlice 64 1 #[(0, Go.Operand.const (Go.Value.bool true))], type := 64, pos := "ref.go:28", after := #[], guard := none }) rfl (fun K hK => ?_) AllReadyL.nil
      go_simp
      have hG2 := hG.alloc (.cells #[.bool true] 4)
      have hk2 := hk.alloc hbs (.cells #[.bool true] 4)
      have n18 : (W2.alloc (.cells #[.bool true] 4)).heap[W2.heap.size]? = some (.cells #[.bool true] 4 (0, 0)) := heap_alloc_new W2 _
      skip
      refine hK.out _ _ (fun _ => hG2.S HN.out) ?_
      clear hK K hS hG hk
      try simp only [Act.put, List.setIfInBounds_toArray, List.set_cons_zero, List.set_cons_succ]
      generalize W2.alloc (.cells #[.bool true] 4) = Wb at *
      generalize W2.heap.size = B18 at *
      have hG := hG2
      have hk := hk2
      have hS := hG.S HN.out
      clear hG2 hk2
      refine wpAnyL_ready (rs := [19]) (by kernel_rfl) (by simp) ?_
      refine AllReadyL.cons (o := { dst := some 29, op := Go.Op.call { callee := Go.Callee.builtin Go.Builtin.append, args := #[Go.Operand.tmp 27, Go.Operand.tmp 28], argTypes := #[64, 64] }, type := 64, pos := "ref.go:28", after := #[{ on := 17, ground := Go.Ground.data }, { on := 18, ground := Go.Ground.data }, { on := 13, ground := Go.Ground.chain }], guard := none }) rfl (fun K hK => ?_) AllReadyL.nil
      refine step_append_lies _ (by rfl) _ _ _ (by rfl) base 4 i4 _ 1 1 Try.underlying64 hi4 hz40 hz41 hz42 rfl (by decide) vl lv.length (bools lv) (by rfl) hG.live ⟨B18, 0, none⟩ 1 1 [.bool true] (by rfl) rfl (World.news_of_block n18) (by simp [Value.oneCell']) (by omega) (by unfold maxLen; omega) (by omega) hG.base_le _ rfl ?_
      intro g2 cap2 W3 hown2 hgrow2 hat2 hlt2
      have hG2 := hG.grownLive (lv' := lv ++ [true]) hgrow2 (by rw [List.length_append, bools_snoc]; exact hown2)
      have hk2 := hk.grown hG.live (.inr rfl) hG.base_le hgrow2
      refine hK.out _ _ (fun _ => hG2.S HN.out) ?_
      clear hK K hS hgrow2 hat2 hlt2 hown2 n18 hG hk
      try simp only [Act.put, List.setIfInBounds_toArray, List.set_cons_zero, List.set_cons_succ]
      have hG := hG2
      have hk := hk2
      have hS := hG.S HN.out
      clear hG2 hk2
      refine wpAnyL_ready (rs := [20]) (by kernel_rfl) (by simp) ?_
      refine AllReadyL.cons (o := { dst := some 30, op := Go.Op.nilCheck (Go.Operand.tmp 10), type := 0, pos := "ref.go:28", after := #[{ on := 0, ground := Go.Ground.data }, { on := 0, ground := Go.Ground.phase }, { on := 1, ground := Go.Ground.textOnly Go.Departure.lateStores }, { on := 2, ground := Go.Ground.phase }, { on := 3, ground := Go.Ground.phase }, { on := 4, ground := Go.Ground.phase }, { on := 5, ground := Go.Ground.phase }, { on := 6, ground := Go.Ground.phase }, { on := 7, ground := Go.Ground.phase }, { on := 8, ground := Go.Ground.phase }, { on := 9, ground := Go.Ground.phase }, { on := 10, ground := Go.Ground.phase }, { on := 11, ground := Go.Ground.phase }, { on := 12, ground := Go.Ground.phase }, { on := 13, ground := Go.Ground.phase }, { on := 14, ground := Go.Ground.textOnly Go.Departure.lateStores }, { on := 15, ground := Go.Ground.textOnly Go.Departure.lateStoresUnsure }, { on := 16, ground := Go.Ground.textOnly Go.Departure.lateStoresUnsure }, { on := 17, ground := Go.Ground.phase }, { on := 18, ground := Go.Ground.textOnly Go.Departure.lateStoresUnsure }, { on := 19, ground := Go.Ground.phase }], guard := none }) rfl (fun K hK => ?_) AllReadyL.nil
      go_simp
      refine hK.out _ _ (fun _ => hS) ?_
      clear hK K
      try simp only [Act.put, List.setIfInBounds_toArray, List.set_cons_zero, List.set_cons_succ]
      refine wpAnyL_ready (rs := [21]) (by kernel_rfl) (by simp) ?_
      refine AllReadyL.cons (o := { dst := some 31, op := Go.Op.fieldAddr 66 (Go.Operand.tmp 30) 3, type := 0, pos := "ref.go:28", after := #[{ on := 20, ground := Go.Ground.data }, { on := 0, ground := Go.Ground.phase }, { on := 1, ground := Go.Ground.textOnly Go.Departure.lateStores }, { on := 2, ground := Go.Ground.phase }, { on := 3, ground := Go.Ground.phase }, { on := 4, ground := Go.Ground.phase }, { on := 5, ground := Go.Ground.phase }, { on := 6, ground := Go.Ground.phase }, { on := 7, ground := Go.Ground.phase }, { on := 8, ground := Go.Ground.phase }, { on := 9, ground := Go.Ground.phase }, { on := 10, ground := Go.Ground.phase }, { on := 11, ground := Go.Ground.phase }, { on := 12, ground := Go.Ground.phase }, { on := 13, ground := Go.Ground.phase }, { on := 14, ground := Go.Ground.textOnly Go.Departure.lateStores }, { on := 15, ground := Go.Ground.textOnly Go.Departure.lateStoresUnsure }, { on := 16, ground := Go.Ground.textOnly Go.Departure.lateStoresUnsure }, { on := 17, ground := Go.Ground.phase }, { on := 18, ground := Go.Ground.textOnly Go.Departure.lateStoresUnsure }, { on := 19, ground := Go.Ground.phase }], guard := none }) rfl (fun K hK => ?_) AllReadyL.nil
      go_simp
      refine hK.out _ _ (fun _ => hS) ?_
      clear hK K
      try simp only [Act.put, List.setIfInBounds_toArray, List.set_cons_zero, List.set_cons_succ]
      refine wpAnyL_ready (rs := [22]) (by kernel_rfl) (by simp) ?_
      refine AllReadyL.cons (o := { dst := none, op := Go.Op.store 63 (Go.Operand.tmp 31) (Go.Operand.tmp 23), type := 0, pos := "ref.go:28", after := #[{ on := 21, ground := Go.Ground.data }, { on := 13, ground := Go.Ground.data }, { on := 19, ground := Go.Ground.chain }, { on := 0, ground := Go.Ground.phase }, { on := 1, ground := Go.Ground.textOnly Go.Departure.lateStores }, { on := 2, ground := Go.Ground.phase }, { on := 3, ground := Go.Ground.phase }, { on := 4, ground := Go.Ground.phase }, { on := 5, ground := Go.Ground.phase }, { on := 6, ground := Go.Ground.phase }, { on := 7, ground := Go.Ground.phase }, { on := 8, ground := Go.Ground.phase }, { on := 9, ground := Go.Ground.phase }, { on := 10, ground := Go.Ground.phase }, { on := 11, ground := Go.Ground.phase }, { on := 12, ground := Go.Ground.phase }, { on := 13, ground := Go.Ground.phase }, { on := 14, ground := Go.Ground.textOnly Go.Departure.lateStores }, { on := 15, ground := Go.Ground.textOnly Go.Departure.lateStoresUnsure }, { on := 16, ground := Go.Ground.textOnly Go.Departure.lateStoresUnsure }, { on := 17, ground := Go.Ground.phase }, { on := 18, ground := Go.Ground.textOnly Go.Departure.lateStoresUnsure }, { on := 19, ground := Go.Ground.phase }], guard := none }) rfl (fun K hK => ?_) AllReadyL.nil
      obtain ⟨⟨k1, k2, k3⟩, f1, f2, f3⟩ := hG.cells
      go_simp
      have hG2 := hG.set3 (.slice (some ⟨g1, 0, none⟩) (is.length + 1) cap1)
      have hk2 := hG.keepSet hk 3 (.slice (some ⟨g1, 0, none⟩) (is.length + 1) cap1)
      refine hK.out _ _ (late_no (by kernel_rfl)) ?_
      clear hK K hS hG hk k1 k2 k3 f1 f2 f3
      try simp only [Act.put, List.setIfInBounds_toArray, List.set_cons_zero, List.set_cons_succ]
      generalize W3.setCell ⟨x, 3, none⟩ (.slice (some ⟨g1, 0, none⟩) (is.length + 1) cap1) = W4 at *
      have hG := hG2
      have hk := hk2
      clear hG2 hk2
      refine wpAnyL_ready (rs := [23]) (by kernel_rfl) (by simp) ?_
      refine AllReadyL.cons (o := { dst := some 32, op := Go.Op.nilCheck (Go.Operand.tmp 11), type := 0, pos := "ref.go:28", after := #[{ on := 1, ground := Go.Ground.data }, { on := 0, ground := Go.Ground.phase }, { on := 1, ground := Go.Ground.phase }, { on := 2, ground := Go.Ground.phase }, { on := 3, ground := Go.Ground.phase }, { on := 4, ground := Go.Ground.phase }, { on := 5, ground := Go.Ground.phase }, { on := 6, ground := Go.Ground.phase }, { on := 7, ground := Go.Ground.phase }, { on := 8, ground := Go.Ground.phase }, { on := 9, ground := Go.Ground.phase }, { on := 10, ground := Go.Ground.phase }, { on := 11, ground := Go.Ground.phase }, { on := 12, ground := Go.Ground.phase }, { on := 13, ground := Go.Ground.phase }, { on := 14, ground := Go.Ground.phase }, { on := 15, ground := Go.Ground.phase }, { on := 16, ground := Go.Ground.phase }, { on := 17, ground := Go.Ground.phase }, { on := 18, ground := Go.Ground.phase }, { on := 19, ground := Go.Ground.phase }, { on := 20, ground := Go.Ground.phase }, { on := 21, ground := Go.Ground.phase }, { on := 22, ground := Go.Ground.phase }], guard := none }) rfl (fun K hK => ?_) AllReadyL.nil
      go_simp
      refine hK.out _ _ (late_no (by kernel_rfl)) ?_
      clear hK K
      try simp only [Act.put, List.setIfInBounds_toArray, List.set_cons_zero, List.set_cons_succ]
      refine wpAnyL_ready (rs := [24]) (by kernel_rfl) (by simp) ?_
      refine AllReadyL.cons (o := { dst := some 33, op := Go.Op.fieldAddr 66 (Go.Operand.tmp 32) 2, type := 0, pos := "ref.go:28", after := #[{ on := 23, ground := Go.Ground.data }, { on := 0, ground := Go.Ground.phase }, { on := 1, ground := Go.Ground.phase }, { on := 2, ground := Go.Ground.phase }, { on := 3, ground := Go.Ground.phase }, { on := 4, ground := Go.Ground.phase }, { on := 5, ground := Go.Ground.phase }, { on := 6, ground := Go.Ground.phase }, { on := 7, ground := Go.Ground.phase }, { on := 8, ground := Go.Ground.phase }, { on := 9, ground := Go.Ground.phase }, { on := 10, ground := Go.Ground.phase }, { on := 11, ground := Go.Ground.phase }, { on := 12, ground := Go.Ground.phase }, { on := 13, ground := Go.Ground.phase }, { on := 14, ground := Go.Ground.phase }, { on := 15, ground := Go.Ground.phase }, { on := 16, ground := Go.Ground.phase }, { on := 17, ground := Go.Ground.phase }, { on := 18, ground := Go.Ground.phase }, { on := 19, ground := Go.Ground.phase }, { on := 20, ground := Go.Ground.phase }, { on := 21, ground := Go.Ground.phase }, { on := 22, ground := Go.Ground.phase }], guard := none }) rfl (fun K hK => ?_) AllReadyL.nil
      go_simp
      refine hK.out _ _ (late_no (by kernel_rfl)) ?_
      clear hK K
      try simp only [Act.put, List.setIfInBounds_toArray, List.set_cons_zero, List.set_cons_succ]
      refine wpAnyL_ready (rs := [25]) (by kernel_rfl) (by simp) ?_
      refine AllReadyL.cons (o := { dst := none, op := Go.Op.store 64 (Go.Operand.tmp 33) (Go.Operand.tmp 29), type := 0, pos := "ref.go:28", after := #[{ on := 24, ground := Go.Ground.data }, { on := 19, ground := Go.Ground.data }, { on := 22, ground := Go.Ground.chain }, { on := 0, ground := Go.Ground.phase }, { on := 1, ground := Go.Ground.phase }, { on := 2, ground := Go.Ground.phase }, { on := 3, ground := Go.Ground.phase }, { on := 4, ground := Go.Ground.phase }, { on := 5, ground := Go.Ground.phase }, { on := 6, ground := Go.Ground.phase }, { on := 7, ground := Go.Ground.phase }, { on := 8, ground := Go.Ground.phase }, { on := 9, ground := Go.Ground.phase }, { on := 10, ground := Go.Ground.phase }, { on := 11, ground := Go.Ground.phase }, { on := 12, ground := Go.Ground.phase }, { on := 13, ground := Go.Ground.phase }, { on := 14, ground := Go.Ground.phase }, { on := 15, ground := Go.Ground.phase }, { on := 16, ground := Go.Ground.phase }, { on := 17, ground := Go.Ground.phase }, { on := 18, ground := Go.Ground.phase }, { on := 19, ground := Go.Ground.phase }, { on := 20, ground := Go.Ground.phase }, { on := 21, ground := Go.Ground.phase }, { on := 22, ground := Go.Ground.phase }], guard := none }) rfl (fun K hK => ?_) AllReadyL.nil
      obtain ⟨⟨k1, k2, k3⟩, f1, f2, f3⟩ := hG.cells
      go_simp
      have hG2 := hG.set2 (.slice (some ⟨g2, 0, none⟩) (lv.length + 1) cap2)
      have hk2 := hG.keepSet hk 2 (.slice (some ⟨g2, 0, none⟩) (lv.length + 1) cap2)
      refine hK.out _ _ (late_no (by kernel_rfl)) ?_
      clear hK K hG hk k1 k2 k3 f1 f2 f3
      try simp only [Act.put, List.setIfInBounds_toArray, List.set_cons_zero, List.set_cons_succ]
      generalize W4.setCell ⟨x, 2, none⟩ (.slice (some ⟨g2, 0, none⟩) (lv.length + 1) cap2) = W5 at *
      have hG := hG2
      have hk := hk2
      clear hG2 hk2
      refine wpAnyL_done (by kernel_rfl) ?_ _
      clear hz40 hz41 hz42 hi4
      have hlen : Hid ((is ++ [i]).length = is.length + 1) := Lib.hid (by simp)
      obtain ⟨⟨k1, k2, k3⟩, f1, f2, f3⟩ := (hG.alloc (.cells #[] 3)).cells
      have hbz := hG.base_le
      have hE : (W5.alloc (.cells #[] 3)).ownsRow base 3 1 (.slice (some ⟨W5.heap.size, 0, none⟩) 0 0) 0 [] := ⟨by simp, .inr ⟨W5.heap.size, 0, #[], rfl, hbz, heap_alloc_new W5 _, by omega, by unfold maxLen; omega, by simp, by simp⟩⟩
      have hfar : ∀ W6, (W5.alloc (.cells #[] 3)).grownBy W6 (some W5.heap.size) → Blk W6 x 66 _ := fun W6 hg => (hg.block x (hG.alloc _).blk.lt (fun e => by have := hG.blk.lt; cases e; omega)).trans (hG.alloc _).blk
      have HFar := Lib.hid hfar
      have hrow : W5.ownsRow base 3 1 (.slice (some ⟨gr, 0, none⟩) n cr) n (nums (i :: q')) := by have := hG.row; rw [← HN.out] at this; exact this
      have hnews : ∀ o, o = 1 ∨ q' = [] → ∀ j u, (nums q')[j]? = some u → (W5.alloc (.cells #[] 3)).cell? ((⟨gr, o, none⟩ : Addr).add j) = some u := fun o ho j u hj => by
        rcases ho with rfl | rfl
        · have hadd : (⟨gr, 1, none⟩ : Addr).add j = ⟨gr, j + 1, none⟩ := by unfold Addr.add; split <;> simp_all [Nat.add_comm]
          obtain ⟨hjl, _⟩ := List.getElem?_eq_some_iff.1 hj
          rw [nums_len] at hjl
          rw [hadd, (hrow.alloc _).cellAt (j + 1) (by have := hnq.out; omega)]
          simpa [nums] using hj
        · simp [nums] at hj
      have HNews := Lib.hid hnews
      have HG := Lib.hid hG
      have HK := Lib.hid hk
      have B4 : (1 : Int) ≤ (n : Int) := by omega
      have B5 : 1 ≤ n := by omega
      have B6 : 1 ≤ cr := by omega
      have hb6 : base ≤ (W5.alloc (.cells #[] 3)).heap.size := by simp; omega
      clear hfar hnews hG hk hrow
      have fin : ∀ (v' : Value) (W6 : World), W6.ownsRow base 3 1 v' q'.length (nums q') → (W5.alloc (.cells #[] 3)).grownBy W6 (some W5.heap.size) → (v'.ownBlock = some W5.heap.size ∨ v'.ownBlock = some (W5.alloc (.cells #[] 3)).heap.size) → ∃ vl' vi', RefP base (W6.setCell ⟨x, 1, none⟩ v') x N v' vl' vi' q' (lv ++ [true]) (is ++ [i]) ∧ KeepR base w (W6.setCell ⟨x, 1, none⟩ v') := fun v' W6 ho hg ha => by
        have hG6 := HG.out.newRow (Nat.le_refl _) hg ho (fun g hgv => by
          rcases ha with e | e
          · rw [e] at hgv; cases hgv; exact Nat.le_refl _
          · rw [e] at hgv; cases hgv; simp)
        exact ⟨_, _, (hG6.set1 v').p, hG6.keepSet ((HK.out.alloc hbs _).grown hE (.inl rfl) hb6 hg) 1 v'⟩
      have FIN := Lib.hid fin
      clear fin
      by_cases hc1 : cr = 1
      · have hn1' : n = 1 := by omega
        have hq0 : q' = [] := List.length_eq_zero_iff.1 (by have := hnq.out; omega)
        subst hc1
        subst hn1'
        subst hq0
        go_wp2_with (at_builtin; refine wpList_append_own_at _ rfl _ _ 63 rfl base 3 i3 _ 1 8 Try.underlying63 hi3 hz30 hz31 hz32 rfl (by decide) (.slice (some ⟨W5.heap.size, 0, none⟩) 0 0) 0 [] rfl hE ⟨gr, 0, none⟩ 0 0 [] rfl rfl (fun j u hj => by simp at hj) (by simp) (by unfold maxLen; omega) (by omega) hb6 ?_; intro v' W6 hown' hgrow hnil hat; have kb := HFar.out W6 hgrow; have ka := kb.cell 1; have fa := kb.frozen 1; have k3a := kb.cell 3; obtain ⟨A', c', rfl, hc'⟩ := own_form hown')
        go_ret2
        obtain ⟨vl', vi', h1, h2⟩ := FIN.out _ _ hown' hgrow hat
        first | exact ⟨_, _, _, rfl, h1, h2⟩ | exact ⟨rfl, ⟨_, _, _, h1⟩, h2⟩
      · go_wp2_with (at_builtin; refine wpList_append_own_at _ rfl _ _ 63 rfl base 3 i3 _ 1 8 Try.underlying63 hi3 hz30 hz31 hz32 rfl (by decide) (.slice (some ⟨W5.heap.size, 0, none⟩) 0 0) 0 [] rfl hE ⟨gr, 1, none⟩ (n - 1) (cr - 1) (nums q') rfl (by rw [nums_len, hnq.out]; simp) (HNews.out 1 (.inl rfl)) (nums_one q') (by unfold maxLen; omega) (by omega) hb6 ?_; rw [Nat.zero_add, List.nil_append]; intro v' W6 hown' hgrow hnil hat; have kb := HFar.out W6 hgrow; have ka := kb.cell 1; have fa := kb.frozen 1; have k3a := kb.cell 3; obtain ⟨A', c', rfl, hc'⟩ := own_form hown')
        go_ret2
        rw [hnq.out] at hown'
        obtain ⟨vl', vi', h1, h2⟩ := FIN.out _ _ hown' hgrow (by rw [hnq.out] at hat; exact hat)
        rw [hnq.out]
        first | exact ⟨_, _, _, rfl, h1, h2⟩ | exact ⟨rfl, ⟨_, _, _, h1⟩, h2⟩
    · refine AllReadyL.cons (o := { dst := some 28, op := Go.Op.buildSlice 64 1 #[(0, Go.Operand.const (Go.Value.bool true))], type := 64, pos := "ref.go:28", after := #[], guard := none }) rfl (fun K hK => ?_) AllReadyL.nil
      go_simp
      have hG2 := hG.alloc (.cells #[.bool true] 4)
      have hk2 := hk.alloc hbs (.cells #[.bool true] 4)
      have n18 : (Wa.alloc (.cells #[.bool true] 4)).heap[Wa.heap.size]? = some (.cells #[.bool true] 4 (0, 0)) := heap_alloc_new Wa _
      have n12 := (Below.heap_alloc Wa (.cells #[.bool true] 4) B12 (blk_lt n12)).trans n12
      refine hK.out _ _ (fun _ => hG2.S HN.out) ?_
      clear hK K hS hG hk
      try simp only [Act.put, List.setIfInBounds_toArray, List.set_cons_zero, List.set_cons_succ]
      generalize Wa.alloc (.cells #[.bool true] 4) = Wb at *
      generalize Wa.heap.size = B18 at *
      have hG := hG2
      have hk := hk2
      have hS := hG.S HN.out
      clear hG2 hk2
      refine wpAnyL_ready (rs := [13]) (by kernel_rfl) (by simp) ?_
      refine AllReadyL.cons (o := { dst := some 23, op := Go.Op.call { callee := Go.Callee.builtin Go.Builtin.append, args := #[Go.Operand.tmp 15, Go.Operand.tmp 22], argTypes := #[63, 63] }, type := 63, pos := "ref.go:28", after := #[{ on := 5, ground := Go.Ground.data }, { on := 12, ground := Go.Ground.data }], guard := none }) rfl (fun K hK => ?_) AllReadyL.nil
      refine step_append_lies _ (by rfl) _ _ _ (by rfl) base 3 i3 _ 1 8 Try.underlying63 hi3 hz30 hz31 hz32 rfl (by decide) vi is.length (nums is) (by rfl) hG.ids ⟨B12, 0, none⟩ 1 1 [.int .i64 (i : Int)] (by rfl) rfl (World.news_of_block n12) (by simp [Value.oneCell']) (by omega) (by unfold maxLen; omega) (by omega) hG.base_le _ rfl ?_
      intro g1 cap1 W2 hown1 hgrow1 hat1 hlt1
      have hG2 := hG.grownIds (is' := is ++ [i]) hgrow1 (by rw [List.length_append, nums_snoc]; exact hown1) (fun g hg => by
        cases hg
        rcases hat1 with e | e
        · exact .inl e
        · exact .inr (Nat.le_of_eq e.symm))
      have hk2 := hk.grown hG.ids (.inl rfl) hG.base_le hgrow1
      have n18 := (hgrow1.block B18 (blk_lt n18) (fun e => own_ne hG.ids (fun cur h => by rw [n18] at h; cases h) e.symm)).trans n18
      refine hK.out _ _ (fun _ => hG2.S HN.out) ?_
      clear hK K hS hgrow1 hat1 hlt1 hown1 n12 hG hk
      try simp only [Act.put, List.setIfInBounds_toArray, List.set_cons_zero, List.set_cons_succ]
      have hG := hG2
      have hk := hk2
      have hS := hG.S HN.out
      clear hG2 hk2
      refine wpAnyL_ready (rs := [19]) (by kernel_rfl) (by simp) ?_
      refine AllReadyL.cons (o := { dst := some 29, op := Go.Op.call { callee := Go.Callee.builtin Go.Builtin.append, args := #[Go.Operand.tmp 27, Go.Operand.tmp 28], argTypes := #[64, 64] }, type := 64, pos := "ref.go:28", after := #[{ on := 17, ground := Go.Ground.data }, { on := 18, ground := Go.Ground.data }, { on := 13, ground := Go.Ground.chain }], guard := none }) rfl (fun K hK => ?_) AllReadyL.nil
      refine step_append_lies _ (by rfl) _ _ _ (by rfl) base 4 i4 _ 1 1 Try.underlying64 hi4 hz40 hz41 hz42 rfl (by decide) vl lv.length (bools lv) (by rfl) hG.live ⟨B18, 0, none⟩ 1 1 [.bool true] (by rfl) rfl (World.news_of_block n18) (by simp [Value.oneCell']) (by omega) (by unfold maxLen; omega) (by omega) hG.base_le _ rfl ?_
      intro g2 cap2 W3 hown2 hgrow2 hat2 hlt2
      have hG2 := hG.grownLive (lv' := lv ++ [true]) hgrow2 (by rw [List.length_append, bools_snoc]; exact hown2)
      have hk2 := hk.grown hG.live (.inr rfl) hG.base_le hgrow2
      refine hK.out _ _ (fun _ => hG2.S HN.out) ?_
      clear hK K hS hgrow2 hat2 hlt2 hown2 n18 hG hk
      try simp only [Act.put, List.setIfInBounds_toArray, List.set_cons_zero, List.set_cons_succ]
      have hG := hG2
      have hk := hk2
      have hS := hG.S HN.out
      clear hG2 hk2
      refine wpAnyL_ready (rs := [20]) (by kernel_rfl) (by simp) ?_
      refine AllReadyL.cons (o := { dst := some 30, op := Go.Op.nilCheck (Go.Operand.tmp 10), type := 0, pos := "ref.go:28", after := #[{ on := 0, ground := Go.Ground.data }, { on := 0, ground := Go.Ground.phase }, { on := 1, ground := Go.Ground.textOnly Go.Departure.lateStores }, { on := 2, ground := Go.Ground.phase }, { on := 3, ground := Go.Ground.phase }, { on := 4, ground := Go.Ground.phase }, { on := 5, ground := Go.Ground.phase }, { on := 6, ground := Go.Ground.phase }, { on := 7, ground := Go.Ground.phase }, { on := 8, ground := Go.Ground.phase }, { on := 9, ground := Go.Ground.phase }, { on := 10, ground := Go.Ground.phase }, { on := 11, ground := Go.Ground.phase }, { on := 12, ground := Go.Ground.phase }, { on := 13, ground := Go.Ground.phase }, { on := 14, ground := Go.Ground.textOnly Go.Departure.lateStores }, { on := 15, ground := Go.Ground.textOnly Go.Departure.lateStoresUnsure }, { on := 16, ground := Go.Ground.textOnly Go.Departure.lateStoresUnsure }, { on := 17, ground := Go.Ground.phase }, { on := 18, ground := Go.Ground.textOnly Go.Departure.lateStoresUnsure }, { on := 19, ground := Go.Ground.phase }], guard := none }) rfl (fun K hK => ?_) AllReadyL.nil
      go_simp
      refine hK.out _ _ (fun _ => hS) ?_
      clear hK K
      try simp only [Act.put, List.setIfInBounds_toArray, List.set_cons_zero, List.set_cons_succ]
      refine wpAnyL_ready (rs := [21]) (by kernel_rfl) (by simp) ?_
      refine AllReadyL.cons (o := { dst := some 31, op := Go.Op.fieldAddr 66 (Go.Operand.tmp 30) 3, type := 0, pos := "ref.go:28", after := #[{ on := 20, ground := Go.Ground.data }, { on := 0, ground := Go.Ground.phase }, { on := 1, ground := Go.Ground.textOnly Go.Departure.lateStores }, { on := 2, ground := Go.Ground.phase }, { on := 3, ground := Go.Ground.phase }, { on := 4, ground := Go.Ground.phase }, { on := 5, ground := Go.Ground.phase }, { on := 6, ground := Go.Ground.phase }, { on := 7, ground := Go.Ground.phase }, { on := 8, ground := Go.Ground.phase }, { on := 9, ground := Go.Ground.phase }, { on := 10, ground := Go.Ground.phase }, { on := 11, ground := Go.Ground.phase }, { on := 12, ground := Go.Ground.phase }, { on := 13, ground := Go.Ground.phase }, { on := 14, ground := Go.Ground.textOnly Go.Departure.lateStores }, { on := 15, ground := Go.Ground.textOnly Go.Departure.lateStoresUnsure }, { on := 16, ground := Go.Ground.textOnly Go.Departure.lateStoresUnsure }, { on := 17, ground := Go.Ground.phase }, { on := 18, ground := Go.Ground.textOnly Go.Departure.lateStoresUnsure }, { on := 19, ground := Go.Ground.phase }], guard := none }) rfl (fun K hK => ?_) AllReadyL.nil
      go_simp
      refine hK.out _ _ (fun _ => hS) ?_
      clear hK K
      try simp only [Act.put, List.setIfInBounds_toArray, List.set_cons_zero, List.set_cons_succ]
      refine wpAnyL_ready (rs := [22]) (by kernel_rfl) (by simp) ?_
      refine AllReadyL.cons (o := { dst := none, op := Go.Op.store 63 (Go.Operand.tmp 31) (Go.Operand.tmp 23), type := 0, pos := "ref.go:28", after := #[{ on := 21, ground := Go.Ground.data }, { on := 13, ground := Go.Ground.data }, { on := 19, ground := Go.Ground.chain }, { on := 0, ground := Go.Ground.phase }, { on := 1, ground := Go.Ground.textOnly Go.Departure.lateStores }, { on := 2, ground := Go.Ground.phase }, { on := 3, ground := Go.Ground.phase }, { on := 4, ground := Go.Ground.phase }, { on := 5, ground := Go.Ground.phase }, { on := 6, ground := Go.Ground.phase }, { on := 7, ground := Go.Ground.phase }, { on := 8, ground := Go.Ground.phase }, { on := 9, ground := Go.Ground.phase }, { on := 10, ground := Go.Ground.phase }, { on := 11, ground := Go.Ground.phase }, { on := 12, ground := Go.Ground.phase }, { on := 13, ground := Go.Ground.phase }, { on := 14, ground := Go.Ground.textOnly Go.Departure.lateStores }, { on := 15, ground := Go.Ground.textOnly Go.Departure.lateStoresUnsure }, { on := 16, ground := Go.Ground.textOnly Go.Departure.lateStoresUnsure }, { on := 17, ground := Go.Ground.phase }, { on := 18, ground := Go.Ground.textOnly Go.Departure.lateStoresUnsure }, { on := 19, ground := Go.Ground.phase }], guard := none }) rfl (fun K hK => ?_) AllReadyL.nil
      obtain ⟨⟨k1, k2, k3⟩, f1, f2, f3⟩ := hG.cells
      go_simp
      have hG2 := hG.set3 (.slice (some ⟨g1, 0, none⟩) (is.length + 1) cap1)
      have hk2 := hG.keepSet hk 3 (.slice (some ⟨g1, 0, none⟩) (is.length + 1) cap1)
      refine hK.out _ _ (late_no (by kernel_rfl)) ?_
      clear hK K hS hG hk k1 k2 k3 f1 f2 f3
      try simp only [Act.put, List.setIfInBounds_toArray, List.set_cons_zero, List.set_cons_succ]
      generalize W3.setCell ⟨x, 3, none⟩ (.slice (some ⟨g1, 0, none⟩) (is.length + 1) cap1) = W4 at *
      have hG := hG2
      have hk := hk2
      clear hG2 hk2
      refine wpAnyL_ready (rs := [23]) (by kernel_rfl) (by simp) ?_
      refine AllReadyL.cons (o := { dst := some 32, op := Go.Op.nilCheck (Go.Operand.tmp 11), type := 0, pos := "ref.go:28", after := #[{ on := 1, ground := Go.Ground.data }, { on := 0, ground := Go.Ground.phase }, { on := 1, ground := Go.Ground.phase }, { on := 2, ground := Go.Ground.phase }, { on := 3, ground := Go.Ground.phase }, { on := 4, ground := Go.Ground.phase }, { on := 5, ground := Go.Ground.phase }, { on := 6, ground := Go.Ground.phase }, { on := 7, ground := Go.Ground.phase }, { on := 8, ground := Go.Ground.phase }, { on := 9, ground := Go.Ground.phase }, { on := 10, ground := Go.Ground.phase }, { on := 11, ground := Go.Ground.phase }, { on := 12, ground := Go.Ground.phase }, { on := 13, ground := Go.Ground.phase }, { on := 14, ground := Go.Ground.phase }, { on := 15, ground := Go.Ground.phase }, { on := 16, ground := Go.Ground.phase }, { on := 17, ground := Go.Ground.phase }, { on := 18, ground := Go.Ground.phase }, { on := 19, ground := Go.Ground.phase }, { on := 20, ground := Go.Ground.phase }, { on := 21, ground := Go.Ground.phase }, { on := 22, ground := Go.Ground.phase }], guard := none }) rfl (fun K hK => ?_) AllReadyL.nil
      go_simp
      refine hK.out _ _ (late_no (by kernel_rfl)) ?_
      clear hK K
      try simp only [Act.put, List.setIfInBounds_toArray, List.set_cons_zero, List.set_cons_succ]
      refine wpAnyL_ready (rs := [24]) (by kernel_rfl) (by simp) ?_
      refine AllReadyL.cons (o := { dst := some 33, op := Go.Op.fieldAddr 66 (Go.Operand.tmp 32) 2, type := 0, pos := "ref.go:28", after := #[{ on := 23, ground := Go.Ground.data }, { on := 0, ground := Go.Ground.phase }, { on := 1, ground := Go.Ground.phase }, { on := 2, ground := Go.Ground.phase }, { on := 3, ground := Go.Ground.phase }, { on := 4, ground := Go.Ground.phase }, { on := 5, ground := Go.Ground.phase }, { on := 6, ground := Go.Ground.phase }, { on := 7, ground := Go.Ground.phase }, { on := 8, ground := Go.Ground.phase }, { on := 9, ground := Go.Ground.phase }, { on := 10, ground := Go.Ground.phase }, { on := 11, ground := Go.Ground.phase }, { on := 12, ground := Go.Ground.phase }, { on := 13, ground := Go.Ground.phase }, { on := 14, ground := Go.Ground.phase }, { on := 15, ground := Go.Ground.phase }, { on := 16, ground := Go.Ground.phase }, { on := 17, ground := Go.Ground.phase }, { on := 18, ground := Go.Ground.phase }, { on := 19, ground := Go.Ground.phase }, { on := 20, ground := Go.Ground.phase }, { on := 21, ground := Go.Ground.phase }, { on := 22, ground := Go.Ground.phase }], guard := none }) rfl (fun K hK => ?_) AllReadyL.nil
      go_simp
      refine hK.out _ _ (late_no (by kernel_rfl)) ?_
      clear hK K
      try simp only [Act.put, List.setIfInBounds_toArray, List.set_cons_zero, List.set_cons_succ]
      refine wpAnyL_ready (rs := [25]) (by kernel_rfl) (by simp) ?_
      refine AllReadyL.cons (o := { dst := none, op := Go.Op.store 64 (Go.Operand.tmp 33) (Go.Operand.tmp 29), type := 0, pos := "ref.go:28", after := #[{ on := 24, ground := Go.Ground.data }, { on := 19, ground := Go.Ground.data }, { on := 22, ground := Go.Ground.chain }, { on := 0, ground := Go.Ground.phase }, { on := 1, ground := Go.Ground.phase }, { on := 2, ground := Go.Ground.phase }, { on := 3, ground := Go.Ground.phase }, { on := 4, ground := Go.Ground.phase }, { on := 5, ground := Go.Ground.phase }, { on := 6, ground := Go.Ground.phase }, { on := 7, ground := Go.Ground.phase }, { on := 8, ground := Go.Ground.phase }, { on := 9, ground := Go.Ground.phase }, { on := 10, ground := Go.Ground.phase }, { on := 11, ground := Go.Ground.phase }, { on := 12, ground := Go.Ground.phase }, { on := 13, ground := Go.Ground.phase }, { on := 14, ground := Go.Ground.phase }, { on := 15, ground := Go.Ground.phase }, { on := 16, ground := Go.Ground.phase }, { on := 17, ground := Go.Ground.phase }, { on := 18, ground := Go.Ground.phase }, { on := 19, ground := Go.Ground.phase }, { on := 20, ground := Go.Ground.phase }, { on := 21, ground := Go.Ground.phase }, { on := 22, ground := Go.Ground.phase }], guard := none }) rfl (fun K hK => ?_) AllReadyL.nil
      obtain ⟨⟨k1, k2, k3⟩, f1, f2, f3⟩ := hG.cells
      go_simp
      have hG2 := hG.set2 (.slice (some ⟨g2, 0, none⟩) (lv.length + 1) cap2)
      have hk2 := hG.keepSet hk 2 (.slice (some ⟨g2, 0, none⟩) (lv.length + 1) cap2)
      refine hK.out _ _ (late_no (by kernel_rfl)) ?_
      clear hK K hG hk k1 k2 k3 f1 f2 f3
      try simp only [Act.put, List.setIfInBounds_toArray, List.set_cons_zero, List.set_cons_succ]
      generalize W4.setCell ⟨x, 2, none⟩ (.slice (some ⟨g2, 0, none⟩) (lv.length + 1) cap2) = W5 at *
      have hG := hG2
      have hk := hk2
      clear hG2 hk2
      refine wpAnyL_done (by kernel_rfl) ?_ _
      clear hz40 hz41 hz42 hi4
      have hlen : Hid ((is ++ [i]).length = is.length + 1) := Lib.hid (by simp)
      obtain ⟨⟨k1, k2, k3⟩, f1, f2, f3⟩ := (hG.alloc (.cells #[] 3)).cells
      have hbz := hG.base_le
      have hE : (W5.alloc (.cells #[] 3)).ownsRow base 3 1 (.slice (some ⟨W5.heap.size, 0, none⟩) 0 0) 0 [] := ⟨by simp, .inr ⟨W5.heap.size, 0, #[], rfl, hbz, heap_alloc_new W5 _, by omega, by unfold maxLen; omega, by simp, by simp⟩⟩
      have hfar : ∀ W6, (W5.alloc (.cells #[] 3)).grownBy W6 (some W5.heap.size) → Blk W6 x 66 _ := fun W6 hg => (hg.block x (hG.alloc _).blk.lt (fun e => by have := hG.blk.lt; cases e; omega)).trans (hG.alloc _).blk
      have HFar := Lib.hid hfar
      have hrow : W5.ownsRow base 3 1 (.slice (some ⟨gr, 0, none⟩) n cr) n (nums (i :: q')) := by have := hG.row; rw [← HN.out] at this; exact this
      have hnews : ∀ o, o = 1 ∨ q' = [] → ∀ j u, (nums q')[j]? = some u → (W5.alloc (.cells #[] 3)).cell? ((⟨gr, o, none⟩ : Addr).add j) = some u := fun o ho j u hj => by
        rcases ho with rfl | rfl
        · have hadd : (⟨gr, 1, none⟩ : Addr).add j = ⟨gr, j + 1, none⟩ := by unfold Addr.add; split <;> simp_all [Nat.add_comm]
          obtain ⟨hjl, _⟩ := List.getElem?_eq_some_iff.1 hj
          rw [nums_len] at hjl
          rw [hadd, (hrow.alloc _).cellAt (j + 1) (by have := hnq.out; omega)]
          simpa [nums] using hj
        · simp [nums] at hj
      have HNews := Lib.hid hnews
      have HG := Lib.hid hG
      have HK := Lib.hid hk
      have B4 : (1 : Int) ≤ (n : Int) := by omega
      have B5 : 1 ≤ n := by omega
      have B6 : 1 ≤ cr := by omega
      have hb6 : base ≤ (W5.alloc (.cells #[] 3)).heap.size := by simp; omega
      clear hfar hnews hG hk hrow
      have fin : ∀ (v' : Value) (W6 : World), W6.ownsRow base 3 1 v' q'.length (nums q') → (W5.alloc (.cells #[] 3)).grownBy W6 (some W5.heap.size) → (v'.ownBlock = some W5.heap.size ∨ v'.ownBlock = some (W5.alloc (.cells #[] 3)).heap.size) → ∃ vl' vi', RefP base (W6.setCell ⟨x, 1, none⟩ v') x N v' vl' vi' q' (lv ++ [true]) (is ++ [i]) ∧ KeepR base w (W6.setCell ⟨x, 1, none⟩ v') := fun v' W6 ho hg ha => by
        have hG6 := HG.out.newRow (Nat.le_refl _) hg ho (fun g hgv => by
          rcases ha with e | e
          · rw [e] at hgv; cases hgv; exact Nat.le_refl _
          · rw [e] at hgv; cases hgv; simp)
        exact ⟨_, _, (hG6.set1 v').p, hG6.keepSet ((HK.out.alloc hbs _).grown hE (.inl rfl) hb6 hg) 1 v'⟩
      have FIN := Lib.hid fin
      clear fin
      by_cases hc1 : cr = 1
      · have hn1' : n = 1 := by omega
        have hq0 : q' = [] := List.length_eq_zero_iff.1 (by have := hnq.out; omega)
        subst hc1
        subst hn1'
        subst hq0
        go_wp2_with (at_builtin; refine wpList_append_own_at _ rfl _ _ 63 rfl base 3 i3 _ 1 8 Try.underlying63 hi3 hz30 hz31 hz32 rfl (by decide) (.slice (some ⟨W5.heap.size, 0, none⟩) 0 0) 0 [] rfl hE ⟨gr, 0, none⟩ 0 0 [] rfl rfl (fun j u hj => by simp at hj) (by simp) (by unfold maxLen; omega) (by omega) hb6 ?_; intro v' W6 hown' hgrow hnil hat; have kb := HFar.out W6 hgrow; have ka := kb.cell 1; have fa := kb.frozen 1; have k3a := kb.cell 3; obtain ⟨A', c', rfl, hc'⟩ := own_form hown')
        go_ret2
        obtain ⟨vl', vi', h1, h2⟩ := FIN.out _ _ hown' hgrow hat
        first | exact ⟨_, _, _, rfl, h1, h2⟩ | exact ⟨rfl, ⟨_, _, _, h1⟩, h2⟩
      · go_wp2_with (at_builtin; refine wpList_append_own_at _ rfl _ _ 63 rfl base 3 i3 _ 1 8 Try.underlying63 hi3 hz30 hz31 hz32 rfl (by decide) (.slice (some ⟨W5.heap.size, 0, none⟩) 0 0) 0 [] rfl hE ⟨gr, 1, none⟩ (n - 1) (cr - 1) (nums q') rfl (by rw [nums_len, hnq.out]; simp) (HNews.out 1 (.inl rfl)) (nums_one q') (by unfold maxLen; omega) (by omega) hb6 ?_; rw [Nat.zero_add, List.nil_append]; intro v' W6 hown' hgrow hnil hat; have kb := HFar.out W6 hgrow; have ka := kb.cell 1; have fa := kb.frozen 1; have k3a := kb.cell 3; obtain ⟨A', c', rfl, hc'⟩ := own_form hown')
        go_ret2
        rw [hnq.out] at hown'
        obtain ⟨vl', vi', h1, h2⟩ := FIN.out _ _ hown' hgrow (by rw [hnq.out] at hat; exact hat)
        rw [hnq.out]
        first | exact ⟨_, _, _, rfl, h1, h2⟩ | exact ⟨rfl, ⟨_, _, _, h1⟩, h2⟩
  · refine AllReadyL.cons (o := { dst := some 28, op := Go.Op.buildSlice 64 1 #[(0, Go.Operand.const (Go.Value.bool true))], type := 64, pos := "ref.go:28", after := #[], guard := none }) rfl (fun K hK => ?_) AllReadyL.nil
    go_simp
    have hG2 := hG.alloc (.cells #[.bool true] 4)
    have hk2 := hk.alloc hbs (.cells #[.bool true] 4)
    have n18 : (W.alloc (.cells #[.bool true] 4)).heap[W.heap.size]? = some (.cells #[.bool true] 4 (0, 0)) := heap_alloc_new W _
    skip
    refine hK.out _ _ (fun _ => hG2.S HN.out) ?_
    clear hK K hS hG hk
    try simp only [Act.put, List.setIfInBounds_toArray, List.set_cons_zero, List.set_cons_succ]
    generalize W.alloc (.cells #[.bool true] 4) = Wa at *
    generalize W.heap.size = B18 at *
    have hG := hG2
    have hk := hk2
    have hS := hG.S HN.out
    clear hG2 hk2
    refine wpAnyL_ready (rs := [12]) (by kernel_rfl) (by simp) ?_
    refine AllReadyL.cons (o := { dst := some 22, op := Go.Op.buildSlice 63 1 #[(0, Go.Operand.tmp 21)], type := 63, pos := "ref.go:28", after := #[{ on := 11, ground := Go.Ground.data }], guard := none }) rfl (fun K hK => ?_) AllReadyL.nil
    go_simp
    have hG2 := hG.alloc (.cells #[.int .i64 (i : Int)] 3)
    have hk2 := hk.alloc hbs (.cells #[.int .i64 (i : Int)] 3)
    have n12 : (Wa.alloc (.cells #[.int .i64 (i : Int)] 3)).heap[Wa.heap.size]? = some (.cells #[.int .i64 (i : Int)] 3 (0, 0)) := heap_alloc_new Wa _
    have n18 := (Below.heap_alloc Wa (.cells #[.int .i64 (i : Int)] 3) B18 (blk_lt n18)).trans n18
    refine hK.out _ _ (fun _ => hG2.S HN.out) ?_
    clear hK K hS hG hk
    try simp only [Act.put, List.setIfInBounds_toArray, List.set_cons_zero, List.set_cons_succ]
    generalize Wa.alloc (.cells #[.int .i64 (i : Int)] 3) = Wb at *
    generalize Wa.heap.size = B12 at *
    have hG := hG2
    have hk := hk2
    have hS := hG.S HN.out
    clear hG2 hk2
    refine wpAnyL_ready (rs := [13]) (by kernel_rfl) (by simp) ?_
    refine AllReadyL.cons (o := { dst := some 23, op := Go.Op.call { callee := Go.Callee.builtin Go.Builtin.append, args := #[Go.Operand.tmp 15, Go.Operand.tmp 22], argTypes := #[63, 63] }, type := 63, pos := "ref.go:28", after := #[{ on := 5, ground := Go.Ground.data }, { on := 12, ground := Go.Ground.data }], guard := none }) rfl (fun K hK => ?_) AllReadyL.nil
    refine step_append_lies _ (by rfl) _ _ _ (by rfl) base 3 i3 _ 1 8 Try.underlying63 hi3 hz30 hz31 hz32 rfl (by decide) vi is.length (nums is) (by rfl) hG.ids ⟨B12, 0, none⟩ 1 1 [.int .i64 (i : Int)] (by rfl) rfl (World.news_of_block n12) (by simp [Value.oneCell']) (by omega) (by unfold maxLen; omega) (by omega) hG.base_le _ rfl ?_
    intro g1 cap1 W2 hown1 hgrow1 hat1 hlt1
    have hG2 := hG.grownIds (is' := is ++ [i]) hgrow1 (by rw [List.length_append, nums_snoc]; exact hown1) (fun g hg => by
      cases hg
      rcases hat1 with e | e
      · exact .inl e
      · exact .inr (Nat.le_of_eq e.symm))
    have hk2 := hk.grown hG.ids (.inl rfl) hG.base_le hgrow1
    have n18 := (hgrow1.block B18 (blk_lt n18) (fun e => own_ne hG.ids (fun cur h => by rw [n18] at h; cases h) e.symm)).trans n18
    refine hK.out _ _ (fun _ => hG2.S HN.out) ?_
    clear hK K hS hgrow1 hat1 hlt1 hown1 n12 hG hk
    try simp only [Act.put, List.setIfInBounds_toArray, List.set_cons_zero, List.set_cons_succ]
    have hG := hG2
    have hk := hk2
    have hS := hG.S HN.out
    clear hG2 hk2
    refine wpAnyL_ready (rs := [19]) (by kernel_rfl) (by simp) ?_
    refine AllReadyL.cons (o := { dst := some 29, op := Go.Op.call { callee := Go.Callee.builtin Go.Builtin.append, args := #[Go.Operand.tmp 27, Go.Operand.tmp 28], argTypes := #[64, 64] }, type := 64, pos := "ref.go:28", after := #[{ on := 17, ground := Go.Ground.data }, { on := 18, ground := Go.Ground.data }, { on := 13, ground := Go.Ground.chain }], guard := none }) rfl (fun K hK => ?_) AllReadyL.nil
    refine step_append_lies _ (by rfl) _ _ _ (by rfl) base 4 i4 _ 1 1 Try.underlying64 hi4 hz40 hz41 hz42 rfl (by decide) vl lv.length (bools lv) (by rfl) hG.live ⟨B18, 0, none⟩ 1 1 [.bool true] (by rfl) rfl (World.news_of_block n18) (by simp [Value.oneCell']) (by omega) (by unfold maxLen; omega) (by omega) hG.base_le _ rfl ?_
    intro g2 cap2 W3 hown2 hgrow2 hat2 hlt2
    have hG2 := hG.grownLive (lv' := lv ++ [true]) hgrow2 (by rw [List.length_append, bools_snoc]; exact hown2)
    have hk2 := hk.grown hG.live (.inr rfl) hG.base_le hgrow2
    refine hK.out _ _ (fun _ => hG2.S HN.out) ?_
    clear hK K hS hgrow2 hat2 hlt2 hown2 n18 hG hk
    try simp only [Act.put, List.setIfInBounds_toArray, List.set_cons_zero, List.set_cons_succ]
    have hG := hG2
    have hk := hk2
    have hS := hG.S HN.out
    clear hG2 hk2
    refine wpAnyL_ready (rs := [20]) (by kernel_rfl) (by simp) ?_
    refine AllReadyL.cons (o := { dst := some 30, op := Go.Op.nilCheck (Go.Operand.tmp 10), type := 0, pos := "ref.go:28", after := #[{ on := 0, ground := Go.Ground.data }, { on := 0, ground := Go.Ground.phase }, { on := 1, ground := Go.Ground.textOnly Go.Departure.lateStores }, { on := 2, ground := Go.Ground.phase }, { on := 3, ground := Go.Ground.phase }, { on := 4, ground := Go.Ground.phase }, { on := 5, ground := Go.Ground.phase }, { on := 6, ground := Go.Ground.phase }, { on := 7, ground := Go.Ground.phase }, { on := 8, ground := Go.Ground.phase }, { on := 9, ground := Go.Ground.phase }, { on := 10, ground := Go.Ground.phase }, { on := 11, ground := Go.Ground.phase }, { on := 12, ground := Go.Ground.phase }, { on := 13, ground := Go.Ground.phase }, { on := 14, ground := Go.Ground.textOnly Go.Departure.lateStores }, { on := 15, ground := Go.Ground.textOnly Go.Departure.lateStoresUnsure }, { on := 16, ground := Go.Ground.textOnly Go.Departure.lateStoresUnsure }, { on := 17, ground := Go.Ground.phase }, { on := 18, ground := Go.Ground.textOnly Go.Departure.lateStoresUnsure }, { on := 19, ground := Go.Ground.phase }], guard := none }) rfl (fun K hK => ?_) AllReadyL.nil
    go_simp
    refine hK.out _ _ (fun _ => hS) ?_
    clear hK K
    try simp only [Act.put, List.setIfInBounds_toArray, List.set_cons_zero, List.set_cons_succ]
    refine wpAnyL_ready (rs := [21]) (by kernel_rfl) (by simp) ?_
    refine AllReadyL.cons (o := { dst := some 31, op := Go.Op.fieldAddr 66 (Go.Operand.tmp 30) 3, type := 0, pos := "ref.go:28", after := #[{ on := 20, ground := Go.Ground.data }, { on := 0, ground := Go.Ground.phase }, { on := 1, ground := Go.Ground.textOnly Go.Departure.lateStores }, { on := 2, ground := Go.Ground.phase }, { on := 3, ground := Go.Ground.phase }, { on := 4, ground := Go.Ground.phase }, { on := 5, ground := Go.Ground.phase }, { on := 6, ground := Go.Ground.phase }, { on := 7, ground := Go.Ground.phase }, { on := 8, ground := Go.Ground.phase }, { on := 9, ground := Go.Ground.phase }, { on := 10, ground := Go.Ground.phase }, { on := 11, ground := Go.Ground.phase }, { on := 12, ground := Go.Ground.phase }, { on := 13, ground := Go.Ground.phase }, { on := 14, ground := Go.Ground.textOnly Go.Departure.lateStores }, { on := 15, ground := Go.Ground.textOnly Go.Departure.lateStoresUnsure }, { on := 16, ground := Go.Ground.textOnly Go.Departure.lateStoresUnsure }, { on := 17, ground := Go.Ground.phase }, { on := 18, ground := Go.Ground.textOnly Go.Departure.lateStoresUnsure }, { on := 19, ground := Go.Ground.phase }], guard := none }) rfl (fun K hK => ?_) AllReadyL.nil
    go_simp
    refine hK.out _ _ (fun _ => hS) ?_
    clear hK K
    try simp only [Act.put, List.setIfInBounds_toArray, List.set_cons_zero, List.set_cons_succ]
    refine wpAnyL_ready (rs := [22]) (by kernel_rfl) (by simp) ?_
    refine AllReadyL.cons (o := { dst := none, op := Go.Op.store 63 (Go.Operand.tmp 31) (Go.Operand.tmp 23), type := 0, pos := "ref.go:28", after := #[{ on := 21, ground := Go.Ground.data }, { on := 13, ground := Go.Ground.data }, { on := 19, ground := Go.Ground.chain }, { on := 0, ground := Go.Ground.phase }, { on := 1, ground := Go.Ground.textOnly Go.Departure.lateStores }, { on := 2, ground := Go.Ground.phase }, { on := 3, ground := Go.Ground.phase }, { on := 4, ground := Go.Ground.phase }, { on := 5, ground := Go.Ground.phase }, { on := 6, ground := Go.Ground.phase }, { on := 7, ground := Go.Ground.phase }, { on := 8, ground := Go.Ground.phase }, { on := 9, ground := Go.Ground.phase }, { on := 10, ground := Go.Ground.phase }, { on := 11, ground := Go.Ground.phase }, { on := 12, ground := Go.Ground.phase }, { on := 13, ground := Go.Ground.phase }, { on := 14, ground := Go.Ground.textOnly Go.Departure.lateStores }, { on := 15, ground := Go.Ground.textOnly Go.Departure.lateStoresUnsure }, { on := 16, ground := Go.Ground.textOnly Go.Departure.lateStoresUnsure }, { on := 17, ground := Go.Ground.phase }, { on := 18, ground := Go.Ground.textOnly Go.Departure.lateStoresUnsure }, { on := 19, ground := Go.Ground.phase }], guard := none }) rfl (fun K hK => ?_) AllReadyL.nil
    obtain ⟨⟨k1, k2, k3⟩, f1, f2, f3⟩ := hG.cells
    go_simp
    have hG2 := hG.set3 (.slice (some ⟨g1, 0, none⟩) (is.length + 1) cap1)
    have hk2 := hG.keepSet hk 3 (.slice (some ⟨g1, 0, none⟩) (is.length + 1) cap1)
    refine hK.out _ _ (late_no (by kernel_rfl)) ?_
    clear hK K hS hG hk k1 k2 k3 f1 f2 f3
    try simp only [Act.put, List.setIfInBounds_toArray, List.set_cons_zero, List.set_cons_succ]
    generalize W3.setCell ⟨x, 3, none⟩ (.slice (some ⟨g1, 0, none⟩) (is.length + 1) cap1) = W4 at *
    have hG := hG2
    have hk := hk2
    clear hG2 hk2
    refine wpAnyL_ready (rs := [23]) (by kernel_rfl) (by simp) ?_
    refine AllReadyL.cons (o := { dst := some 32, op := Go.Op.nilCheck (Go.Operand.tmp 11), type := 0, pos := "ref.go:28", after := #[{ on := 1, ground := Go.Ground.data }, { on := 0, ground := Go.Ground.phase }, { on := 1, ground := Go.Ground.phase }, { on := 2, ground := Go.Ground.phase }, { on := 3, ground := Go.Ground.phase }, { on := 4, ground := Go.Ground.phase }, { on := 5, ground := Go.Ground.phase }, { on := 6, ground := Go.Ground.phase }, { on := 7, ground := Go.Ground.phase }, { on := 8, ground := Go.Ground.phase }, { on := 9, ground := Go.Ground.phase }, { on := 10, ground := Go.Ground.phase }, { on := 11, ground := Go.Ground.phase }, { on := 12, ground := Go.Ground.phase }, { on := 13, ground := Go.Ground.phase }, { on := 14, ground := Go.Ground.phase }, { on := 15, ground := Go.Ground.phase }, { on := 16, ground := Go.Ground.phase }, { on := 17, ground := Go.Ground.phase }, { on := 18, ground := Go.Ground.phase }, { on := 19, ground := Go.Ground.phase }, { on := 20, ground := Go.Ground.phase }, { on := 21, ground := Go.Ground.phase }, { on := 22, ground := Go.Ground.phase }], guard := none }) rfl (fun K hK => ?_) AllReadyL.nil
    go_simp
    refine hK.out _ _ (late_no (by kernel_rfl)) ?_
    clear hK K
    try simp only [Act.put, List.setIfInBounds_toArray, List.set_cons_zero, List.set_cons_succ]
    refine wpAnyL_ready (rs := [24]) (by kernel_rfl) (by simp) ?_
    refine AllReadyL.cons (o := { dst := some 33, op := Go.Op.fieldAddr 66 (Go.Operand.tmp 32) 2, type := 0, pos := "ref.go:28", after := #[{ on := 23, ground := Go.Ground.data }, { on := 0, ground := Go.Ground.phase }, { on := 1, ground := Go.Ground.phase }, { on := 2, ground := Go.Ground.phase }, { on := 3, ground := Go.Ground.phase }, { on := 4, ground := Go.Ground.phase }, { on := 5, ground := Go.Ground.phase }, { on := 6, ground := Go.Ground.phase }, { on := 7, ground := Go.Ground.phase }, { on := 8, ground := Go.Ground.phase }, { on := 9, ground := Go.Ground.phase }, { on := 10, ground := Go.Ground.phase }, { on := 11, ground := Go.Ground.phase }, { on := 12, ground := Go.Ground.phase }, { on := 13, ground := Go.Ground.phase }, { on := 14, ground := Go.Ground.phase }, { on := 15, ground := Go.Ground.phase }, { on := 16, ground := Go.Ground.phase }, { on := 17, ground := Go.Ground.phase }, { on := 18, ground := Go.Ground.phase }, { on := 19, ground := Go.Ground.phase }, { on := 20, ground := Go.Ground.phase }, { on := 21, ground := Go.Ground.phase }, { on := 22, ground := Go.Ground.phase }], guard := none }) rfl (fun K hK => ?_) AllReadyL.nil
    go_simp
    refine hK.out _ _ (late_no (by kernel_rfl)) ?_
    clear hK K
    try simp only [Act.put, List.setIfInBounds_toArray, List.set_cons_zero, List.set_cons_succ]
    refine wpAnyL_ready (rs := [25]) (by kernel_rfl) (by simp) ?_
    refine AllReadyL.cons (o := { dst := none, op := Go.Op.store 64 (Go.Operand.tmp 33) (Go.Operand.tmp 29), type := 0, pos := "ref.go:28", after := #[{ on := 24, ground := Go.Ground.data }, { on := 19, ground := Go.Ground.data }, { on := 22, ground := Go.Ground.chain }, { on := 0, ground := Go.Ground.phase }, { on := 1, ground := Go.Ground.phase }, { on := 2, ground := Go.Ground.phase }, { on := 3, ground := Go.Ground.phase }, { on := 4, ground := Go.Ground.phase }, { on := 5, ground := Go.Ground.phase }, { on := 6, ground := Go.Ground.phase }, { on := 7, ground := Go.Ground.phase }, { on := 8, ground := Go.Ground.phase }, { on := 9, ground := Go.Ground.phase }, { on := 10, ground := Go.Ground.phase }, { on := 11, ground := Go.Ground.phase }, { on := 12, ground := Go.Ground.phase }, { on := 13, ground := Go.Ground.phase }, { on := 14, ground := Go.Ground.phase }, { on := 15, ground := Go.Ground.phase }, { on := 16, ground := Go.Ground.phase }, { on := 17, ground := Go.Ground.phase }, { on := 18, ground := Go.Ground.phase }, { on := 19, ground := Go.Ground.phase }, { on := 20, ground := Go.Ground.phase }, { on := 21, ground := Go.Ground.phase }, { on := 22, ground := Go.Ground.phase }], guard := none }) rfl (fun K hK => ?_) AllReadyL.nil
    obtain ⟨⟨k1, k2, k3⟩, f1, f2, f3⟩ := hG.cells
    go_simp
    have hG2 := hG.set2 (.slice (some ⟨g2, 0, none⟩) (lv.length + 1) cap2)
    have hk2 := hG.keepSet hk 2 (.slice (some ⟨g2, 0, none⟩) (lv.length + 1) cap2)
    refine hK.out _ _ (late_no (by kernel_rfl)) ?_
    clear hK K hG hk k1 k2 k3 f1 f2 f3
    try simp only [Act.put, List.setIfInBounds_toArray, List.set_cons_zero, List.set_cons_succ]
    generalize W4.setCell ⟨x, 2, none⟩ (.slice (some ⟨g2, 0, none⟩) (lv.length + 1) cap2) = W5 at *
    have hG := hG2
    have hk := hk2
    clear hG2 hk2
    refine wpAnyL_done (by kernel_rfl) ?_ _
    clear hz40 hz41 hz42 hi4
    have hlen : Hid ((is ++ [i]).length = is.length + 1) := Lib.hid (by simp)
    obtain ⟨⟨k1, k2, k3⟩, f1, f2, f3⟩ := (hG.alloc (.cells #[] 3)).cells
    have hbz := hG.base_le
    have hE : (W5.alloc (.cells #[] 3)).ownsRow base 3 1 (.slice (some ⟨W5.heap.size, 0, none⟩) 0 0) 0 [] := ⟨by simp, .inr ⟨W5.heap.size, 0, #[], rfl, hbz, heap_alloc_new W5 _, by omega, by unfold maxLen; omega, by simp, by simp⟩⟩
    have hfar : ∀ W6, (W5.alloc (.cells #[] 3)).grownBy W6 (some W5.heap.size) → Blk W6 x 66 _ := fun W6 hg => (hg.block x (hG.alloc _).blk.lt (fun e => by have := hG.blk.lt; cases e; omega)).trans (hG.alloc _).blk
    have HFar := Lib.hid hfar
    have hrow : W5.ownsRow base 3 1 (.slice (some ⟨gr, 0, none⟩) n cr) n (nums (i :: q')) := by have := hG.row; rw [← HN.out] at this; exact this
    have hnews : ∀ o, o = 1 ∨ q' = [] → ∀ j u, (nums q')[j]? = some u → (W5.alloc (.cells #[] 3)).cell? ((⟨gr, o, none⟩ : Addr).add j) = some u := fun o ho j u hj => by
      rcases ho with rfl | rfl
      · have hadd : (⟨gr, 1, none⟩ : Addr).add j = ⟨gr, j + 1, none⟩ := by unfold Addr.add; split <;> simp_all [Nat.add_comm]
        obtain ⟨hjl, _⟩ := List.getElem?_eq_some_iff.1 hj
        rw [nums_len] at hjl
        rw [hadd, (hrow.alloc _).cellAt (j + 1) (by have := hnq.out; omega)]
        simpa [nums] using hj
      · simp [nums] at hj
    have HNews := Lib.hid hnews
    have HG := Lib.hid hG
    have HK := Lib.hid hk
    have B4 : (1 : Int) ≤ (n : Int) := by omega
    have B5 : 1 ≤ n := by omega
    have B6 : 1 ≤ cr := by omega
    have hb6 : base ≤ (W5.alloc (.cells #[] 3)).heap.size := by simp; omega
    clear hfar hnews hG hk hrow
    have fin : ∀ (v' : Value) (W6 : World), W6.ownsRow base 3 1 v' q'.length (nums q') → (W5.alloc (.cells #[] 3)).grownBy W6 (some W5.heap.size) → (v'.ownBlock = some W5.heap.size ∨ v'.ownBlock = some (W5.alloc (.cells #[] 3)).heap.size) → ∃ vl' vi', RefP base (W6.setCell ⟨x, 1, none⟩ v') x N v' vl' vi' q' (lv ++ [true]) (is ++ [i]) ∧ KeepR base w (W6.setCell ⟨x, 1, none⟩ v') := fun v' W6 ho hg ha => by
      have hG6 := HG.out.newRow (Nat.le_refl _) hg ho (fun g hgv => by
        rcases ha with e | e
        · rw [e] at hgv; cases hgv; exact Nat.le_refl _
        · rw [e] at hgv; cases hgv; simp)
      exact ⟨_, _, (hG6.set1 v').p, hG6.keepSet ((HK.out.alloc hbs _).grown hE (.inl rfl) hb6 hg) 1 v'⟩
    have FIN := Lib.hid fin
    clear fin
    by_cases hc1 : cr = 1
    · have hn1' : n = 1 := by omega
      have hq0 : q' = [] := List.length_eq_zero_iff.1 (by have := hnq.out; omega)
      subst hc1
      subst hn1'
      subst hq0
      go_wp2_with (at_builtin; refine wpList_append_own_at _ rfl _ _ 63 rfl base 3 i3 _ 1 8 Try.underlying63 hi3 hz30 hz31 hz32 rfl (by decide) (.slice (some ⟨W5.heap.size, 0, none⟩) 0 0) 0 [] rfl hE ⟨gr, 0, none⟩ 0 0 [] rfl rfl (fun j u hj => by simp at hj) (by simp) (by unfold maxLen; omega) (by omega) hb6 ?_; intro v' W6 hown' hgrow hnil hat; have kb := HFar.out W6 hgrow; have ka := kb.cell 1; have fa := kb.frozen 1; have k3a := kb.cell 3; obtain ⟨A', c', rfl, hc'⟩ := own_form hown')
      go_ret2
      obtain ⟨vl', vi', h1, h2⟩ := FIN.out _ _ hown' hgrow hat
      first | exact ⟨_, _, _, rfl, h1, h2⟩ | exact ⟨rfl, ⟨_, _, _, h1⟩, h2⟩
    · go_wp2_with (at_builtin; refine wpList_append_own_at _ rfl _ _ 63 rfl base 3 i3 _ 1 8 Try.underlying63 hi3 hz30 hz31 hz32 rfl (by decide) (.slice (some ⟨W5.heap.size, 0, none⟩) 0 0) 0 [] rfl hE ⟨gr, 1, none⟩ (n - 1) (cr - 1) (nums q') rfl (by rw [nums_len, hnq.out]; simp) (HNews.out 1 (.inl rfl)) (nums_one q') (by unfold maxLen; omega) (by omega) hb6 ?_; rw [Nat.zero_add, List.nil_append]; intro v' W6 hown' hgrow hnil hat; have kb := HFar.out W6 hgrow; have ka := kb.cell 1; have fa := kb.frozen 1; have k3a := kb.cell 3; obtain ⟨A', c', rfl, hc'⟩ := own_form hown')
      go_ret2
      rw [hnq.out] at hown'
      obtain ⟨vl', vi', h1, h2⟩ := FIN.out _ _ hown' hgrow (by rw [hnq.out] at hat; exact hat)
      rw [hnq.out]
      first | exact ⟨_, _, _, rfl, h1, h2⟩ | exact ⟨rfl, ⟨_, _, _, h1⟩, h2⟩

end Go.Proofs.Ytfipifjlmepooaa
