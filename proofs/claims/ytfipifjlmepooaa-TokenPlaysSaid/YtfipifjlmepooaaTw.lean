/- End of the reference. -/
import Derived.Test.YtfipifjlmepooaaTv
namespace Go.Proofs.Ytfipifjlmepooaa
open Go.RowKit Go.Conc
set_option linter.unusedVariables false
set_option linter.unusedSimpArgs false
theorem own_at {w : World} {base : Nat} {e : TypeId} {n j : Nat} {v u : Value} {xs : List Value} (h : w.ownsRow base e 1 v n xs) (hj : xs[j]? = some u) : ∃ g c, v = .slice (some ⟨g, 0, none⟩) n c ∧ w.cell? ⟨g, j, none⟩ = some u ∧ w.frozen? ⟨g, j, none⟩ = false ∧ j < n := by
  obtain ⟨hl, _⟩ := List.getElem?_eq_some_iff.1 hj
  have hx := h.1
  rcases h.2 with ⟨_, h0⟩ | ⟨g, c, cur, rfl, hg, _⟩
  · omega
  · exact ⟨g, c, rfl, by rw [h.cellAt j (by omega)]; exact hj, h.frozenAt j, by omega⟩
theorem bools_set (l : List Bool) (j : Nat) (b : Bool) : (bools l).set j (.bool b) = bools (l.set j b) := by simp [bools]
theorem RefG.setLive {base : Nat} {w : World} {x N gl n cl j : Nat} {c1 c2 c3 vr vi : Value} {q : List Nat} {lv : List Bool} {is : List Nat} (h : RefG base w x N c1 c2 c3 vr (.slice (some ⟨gl, 0, none⟩) n cl) vi q lv is) (hn : n = lv.length) (b : Bool) :
    RefG base (w.setCell ⟨gl, j, none⟩ (.bool b)) x N c1 c2 c3 vr (.slice (some ⟨gl, 0, none⟩) n cl) vi q (lv.set j b) is := by
  have hl := h.live
  have hne := h.ne
  subst hn
  refine ⟨h.blk.far (p := ⟨gl, j, none⟩) (fun e => hne.2.1 (by subst e; rfl)) _, h.ge, ownsRow_setCell_other h.row (fun e => own_apart h.row h.live (by decide) gl e rfl) _, ?_, ownsRow_setCell_other h.ids (fun e => own_apart h.ids h.live (by decide) gl e rfl) _, h.apart⟩
  rw [← bools_set, List.length_set]
  exact (hl.stored j (.bool b)).1
theorem RefG.S2 {base : Nat} {w : World} {x N gi m ci j i : Nat} {c1 c2 vr vl : Value} {q : List Nat} {lv : List Bool} {is : List Nat} (h : RefG base w x N c1 c2 (.slice (some ⟨gi, 0, none⟩) m ci) vr vl (.slice (some ⟨gi, 0, none⟩) m ci) q lv is) (hm : m = is.length) (hj : is[j]? = some i) :
    w.cell? ⟨x, 1, none⟩ = some c1 ∧ w.cell? ⟨x, 3, none⟩ = some (.slice (some ⟨gi, 0, none⟩) m ci) ∧ w.cell? ⟨gi, j, none⟩ = some (.int .i64 i) := by
  obtain ⟨⟨h1, h2, h3⟩, -⟩ := h.cells
  refine ⟨h1, h3, ?_⟩
  have hi := h.ids
  rw [← hm] at hi
  obtain ⟨hl, _⟩ := List.getElem?_eq_some_iff.1 hj
  rw [hi.cellAt j (by omega)]
  exact nums_get is j i hj
set_option maxRecDepth 100000 in
set_option maxHeartbeats 4000000 in
theorem refEnd_dead (base x N j : Nat) (vr vl vi : Value) (q : List Nat) (lv : List Bool) (is : List Nat) (w : World) (h : RefP base w x N vr vl vi q lv is) (hj : lv[j]? = some false) (hl : lv.length ≤ 1000) :
    Calls Try.prog 37 #[at0 x, .int .i64 j] w fun e w' => e = .returned (.int .i64 4) ∧ w = w' := by
  obtain ⟨⟨k1, k2, k3⟩, f1, f2, f3⟩ := h.cells
  obtain ⟨gl, cl, rfl, hc, hf, hlt⟩ := own_at h.live (bools_get lv j false hj)
  clear h hj
  generalize lv.length = n at *
  have B1 : (j : Int) < (n : Int) := by omega
  unfold at0
  go_enter Try.func37, Try.ntmps37
  go_wp2_with fail
  go_ret
  exact ⟨rfl, rfl⟩
set_option maxRecDepth 100000 in
set_option maxHeartbeats 8000000 in
theorem refEnd_ok (base x N j i : Nat) (vr vl vi : Value) (q : List Nat) (lv : List Bool) (is : List Nat) (w : World) (h : RefP base w x N vr vl vi q lv is) (hj : lv[j]? = some true) (hij0 : is[j]? = some i) (hl : lv.length ≤ 1000) (hi : is.length ≤ 1000) (hq : q.length ≤ 1000) :
    Calls Try.prog 37 #[at0 x, .int .i64 j] w fun e w' => ∃ vr', e = .returned (.int .i64 0) ∧ RefP base w' x N vr' vl vi (q ++ [i]) (lv.set j false) is ∧ KeepR base w w' := by
  obtain ⟨i3, hi3, hz30, hz31, hz32⟩ := info_parts info3
  obtain ⟨⟨k1, k2, k3⟩, f1, f2, f3⟩ := h.cells
  obtain ⟨gl, cl, rfl, hc, hf, hlt⟩ := own_at h.live (bools_get lv j true hj)
  obtain ⟨gi, ci, rfl, hc2, hf2, hlt2⟩ := own_at h.ids (nums_get is j i hij0)
  obtain ⟨n, hn⟩ : ∃ n, n = lv.length := ⟨_, rfl⟩
  obtain ⟨m, hm⟩ : ∃ m, m = is.length := ⟨_, rfl⟩
  have hij := Lib.hid hij0
  rw [← hn] at h k2 hl hlt ⊢
  rw [← hm] at h k3 hi hlt2 ⊢
  have hcells : ∃ cur, w.heap[gl]? = some (.cells cur 4 (0, 0)) := own_cells h.live gl rfl
  obtain ⟨cur, hcur⟩ := hcells
  have hge : base ≤ gl := own_ge h.live gl rfl
  have hG0 := h.g.setLive (j := j) hn false
  have hk0 : KeepR base w (w.setCell ⟨gl, j, none⟩ (.bool false)) := (KeepR.refl base w).setCell (p := ⟨gl, j, none⟩) hge hcur (.inr (.inr rfl)) _
  have hbs : base ≤ w.heap.size := by have := h.g.base_le; exact this
  have hms := Lib.hid hm
  have HG := Lib.hid hG0.drew
  have HK := Lib.hid hk0.drew
  have B1 : (j : Int) < (n : Int) := by omega
  have B2 : (j : Int) < (m : Int) := by omega
  have B3 : (0 : Int) ≤ (j : Int) := by omega
  clear h hj hn hm hij0 hcur hge hG0 hk0 hc2 hf2
  unfold at0
  go_enter Try.func37, Try.ntmps37
  go_wp2_with fail
  refine wp_region_late (S := fun w' => w'.cell? ⟨x, 1, none⟩ = some vr ∧ w'.cell? ⟨x, 3, none⟩ = some (.slice (some ⟨gi, 0, none⟩) m ci) ∧ w'.cell? ⟨gi, j, none⟩ = some (.int .i64 i)) (st := 16) (by kernel_rfl) ?_
  clear k1 k2 k3 f1 f2 f3 hc hf
  have hG := HG.out
  have hk := HK.out
  clear HG HK
  generalize (w.setCell ⟨gl, j, none⟩ (.bool false)).drew = W at *
  have hS := hG.S2 hms.out hij.out
  refine wpAnyL_take0 (i := 0) (oi := { dst := some 19, op := Go.Op.move (Go.Operand.tmp 0), type := 54, pos := "ref.go:39", after := #[], guard := none }) (v := .pointer (some ⟨x, 0, none⟩)) rfl (by kernel_rfl) (by kernel_rfl) (by kernel_rfl) (by kernel_rfl) (fun _ _ _ h => h) hS (Or.inl ⟨by rfl, fun w hSw => ?_⟩) ?_
  · go_split_ands
    go_simp
  try simp only [Act.put, List.setIfInBounds_toArray, List.set_cons_zero, List.set_cons_succ]
  refine wpAnyL_take0 (i := 1) (oi := { dst := some 20, op := Go.Op.move (Go.Operand.tmp 0), type := 54, pos := "ref.go:39", after := #[], guard := none }) (v := .pointer (some ⟨x, 0, none⟩)) rfl (by kernel_rfl) (by kernel_rfl) (by kernel_rfl) (by kernel_rfl) (fun _ _ _ h => h) hS (Or.inl ⟨by rfl, fun w hSw => ?_⟩) ?_
  · go_split_ands
    go_simp
  try simp only [Act.put, List.setIfInBounds_toArray, List.set_cons_zero, List.set_cons_succ]
  refine wpAnyL_take0 (i := 2) (oi := { dst := some 21, op := Go.Op.nilCheck (Go.Operand.tmp 20), type := 0, pos := "ref.go:39", after := #[{ on := 1, ground := Go.Ground.data }], guard := none }) (v := .pointer (some ⟨x, 0, none⟩)) rfl (by kernel_rfl) (by kernel_rfl) (by kernel_rfl) (by kernel_rfl) (fun _ _ _ h => h) hS (Or.inl ⟨by rfl, fun w hSw => ?_⟩) ?_
  · go_split_ands
    go_simp
  try simp only [Act.put, List.setIfInBounds_toArray, List.set_cons_zero, List.set_cons_succ]
  refine wpAnyL_take0 (i := 3) (oi := { dst := some 22, op := Go.Op.fieldAddr 66 (Go.Operand.tmp 21) 1, type := 0, pos := "ref.go:39", after := #[{ on := 2, ground := Go.Ground.data }], guard := none }) (v := .pointer (some ⟨x, 1, none⟩)) rfl (by kernel_rfl) (by kernel_rfl) (by kernel_rfl) (by kernel_rfl) (fun _ _ _ h => h) hS (Or.inl ⟨by rfl, fun w hSw => ?_⟩) ?_
  · go_split_ands
    go_simp
  try simp only [Act.put, List.setIfInBounds_toArray, List.set_cons_zero, List.set_cons_succ]
  refine wpAnyL_take (i := 4) (oi := { dst := some 23, op := Go.Op.load 63 (Go.Operand.tmp 22), type := 63, pos := "ref.go:39", after := #[{ on := 3, ground := Go.Ground.data }], guard := none }) (v := vr) rfl (by kernel_rfl) (by kernel_rfl) (by kernel_rfl) (by kernel_rfl) (fun _ _ _ h => h) hS (Or.inl ⟨by rfl, fun w hSw => ?_⟩) ?_
  · go_split_ands
    go_simp
  try simp only [Act.put, List.setIfInBounds_toArray, List.set_cons_zero, List.set_cons_succ]
  refine wpAnyL_take0 (i := 5) (oi := { dst := some 24, op := Go.Op.move (Go.Operand.tmp 0), type := 54, pos := "ref.go:39", after := #[], guard := none }) (v := .pointer (some ⟨x, 0, none⟩)) rfl (by kernel_rfl) (by kernel_rfl) (by kernel_rfl) (by kernel_rfl) (fun _ _ _ h => h) hS (Or.inl ⟨by rfl, fun w hSw => ?_⟩) ?_
  · go_split_ands
    go_simp
  try simp only [Act.put, List.setIfInBounds_toArray, List.set_cons_zero, List.set_cons_succ]
  refine wpAnyL_take0 (i := 6) (oi := { dst := some 25, op := Go.Op.nilCheck (Go.Operand.tmp 24), type := 0, pos := "ref.go:39", after := #[{ on := 5, ground := Go.Ground.data }], guard := none }) (v := .pointer (some ⟨x, 0, none⟩)) rfl (by kernel_rfl) (by kernel_rfl) (by kernel_rfl) (by kernel_rfl) (fun _ _ _ h => h) hS (Or.inl ⟨by rfl, fun w hSw => ?_⟩) ?_
  · go_split_ands
    go_simp
  try simp only [Act.put, List.setIfInBounds_toArray, List.set_cons_zero, List.set_cons_succ]
  refine wpAnyL_take0 (i := 7) (oi := { dst := some 26, op := Go.Op.fieldAddr 66 (Go.Operand.tmp 25) 3, type := 0, pos := "ref.go:39", after := #[{ on := 6, ground := Go.Ground.data }], guard := none }) (v := .pointer (some ⟨x, 3, none⟩)) rfl (by kernel_rfl) (by kernel_rfl) (by kernel_rfl) (by kernel_rfl) (fun _ _ _ h => h) hS (Or.inl ⟨by rfl, fun w hSw => ?_⟩) ?_
  · go_split_ands
    go_simp
  try simp only [Act.put, List.setIfInBounds_toArray, List.set_cons_zero, List.set_cons_succ]
  refine wpAnyL_take (i := 8) (oi := { dst := some 27, op := Go.Op.load 63 (Go.Operand.tmp 26), type := 63, pos := "ref.go:39", after := #[{ on := 7, ground := Go.Ground.data }], guard := none }) (v := .slice (some ⟨gi, 0, none⟩) m ci) rfl (by kernel_rfl) (by kernel_rfl) (by kernel_rfl) (by kernel_rfl) (fun _ _ _ h => h) hS (Or.inl ⟨by rfl, fun w hSw => ?_⟩) ?_
  · go_split_ands
    go_simp
  try simp only [Act.put, List.setIfInBounds_toArray, List.set_cons_zero, List.set_cons_succ]
  refine wpAnyL_take0 (i := 9) (oi := { dst := some 28, op := Go.Op.move (Go.Operand.tmp 1), type := 3, pos := "ref.go:39", after := #[], guard := none }) (v := .int .i64 j) rfl (by kernel_rfl) (by kernel_rfl) (by kernel_rfl) (by kernel_rfl) (fun _ _ _ h => h) hS (Or.inl ⟨by rfl, fun w hSw => ?_⟩) ?_
  · go_split_ands
    go_simp
  try simp only [Act.put, List.setIfInBounds_toArray, List.set_cons_zero, List.set_cons_succ]
  refine wpAnyL_take0 (i := 10) (oi := { dst := some 29, op := Go.Op.indexAddr 63 (Go.Operand.tmp 27) (Go.Operand.tmp 28), type := 0, pos := "ref.go:39", after := #[{ on := 8, ground := Go.Ground.data }, { on := 9, ground := Go.Ground.data }], guard := none }) (v := .pointer (some ⟨gi, j, none⟩)) rfl (by kernel_rfl) (by kernel_rfl) (by kernel_rfl) (by kernel_rfl) (fun _ _ _ h => h) hS (Or.inl ⟨by rfl, fun w hSw => ?_⟩) ?_
  · go_split_ands
    go_simp
  try simp only [Act.put, List.setIfInBounds_toArray, List.set_cons_zero, List.set_cons_succ]
  refine wpAnyL_take (i := 11) (oi := { dst := some 30, op := Go.Op.load 3 (Go.Operand.tmp 29), type := 3, pos := "ref.go:39", after := #[{ on := 10, ground := Go.Ground.data }], guard := none }) (v := .int .i64 i) rfl (by kernel_rfl) (by kernel_rfl) (by kernel_rfl) (by kernel_rfl) (fun _ _ _ h => h) hS (Or.inl ⟨by rfl, fun w hSw => ?_⟩) ?_
  · go_split_ands
    go_simp
  try simp only [Act.put, List.setIfInBounds_toArray, List.set_cons_zero, List.set_cons_succ]
  refine wpAnyL_ready (rs := [12]) (by kernel_rfl) (by simp) ?_
  refine AllReadyL.cons (o := { dst := some 31, op := Go.Op.buildSlice 63 1 #[(0, Go.Operand.tmp 30)], type := 63, pos := "ref.go:39", after := #[{ on := 11, ground := Go.Ground.data }], guard := none }) rfl (fun K hK => ?_) AllReadyL.nil
  go_simp
  have hG2 := hG.alloc (.cells #[.int .i64 (i : Int)] 3)
  have hk2 := hk.alloc hbs (.cells #[.int .i64 (i : Int)] 3)
  have n12 : (W.alloc (.cells #[.int .i64 (i : Int)] 3)).heap[W.heap.size]? = some (.cells #[.int .i64 (i : Int)] 3 (0, 0)) := heap_alloc_new W _
  refine hK.out _ _ (fun _ => hG2.S2 hms.out hij.out) ?_
  clear hK K hS hG hk
  try simp only [Act.put, List.setIfInBounds_toArray, List.set_cons_zero, List.set_cons_succ]
  generalize W.alloc (.cells #[.int .i64 (i : Int)] 3) = W1 at *
  generalize W.heap.size = B12 at *
  have hG := hG2
  have hk := hk2
  have hS := hG.S2 hms.out hij.out
  clear hG2 hk2
  refine wpAnyL_ready (rs := [13]) (by kernel_rfl) (by simp) ?_
  refine AllReadyL.cons (o := { dst := some 32, op := Go.Op.call { callee := Go.Callee.builtin Go.Builtin.append, args := #[Go.Operand.tmp 23, Go.Operand.tmp 31], argTypes := #[63, 63] }, type := 63, pos := "ref.go:39", after := #[{ on := 4, ground := Go.Ground.data }, { on := 12, ground := Go.Ground.data }], guard := none }) rfl (fun K hK => ?_) AllReadyL.nil
  refine step_append_lies _ (by rfl) _ _ _ (by rfl) base 3 i3 _ 1 8 Try.underlying63 hi3 hz30 hz31 hz32 rfl (by decide) vr q.length (nums q) (by rfl) hG.row ⟨B12, 0, none⟩ 1 1 [.int .i64 (i : Int)] (by rfl) rfl (World.news_of_block n12) (by simp [Value.oneCell']) (by omega) (by unfold maxLen; omega) (by omega) hG.base_le _ rfl ?_
  intro g1 cap1 W2 hown1 hgrow1 hat1 hlt1
  have hG2 := hG.grownRow (q' := q ++ [i]) hgrow1 (by rw [List.length_append, nums_snoc]; exact hown1) (fun g hg => by
    cases hg
    rcases hat1 with e | e
    · exact .inl e
    · exact .inr (Nat.le_of_eq e.symm))
  have hk2 := hk.grown hG.row (.inl rfl) hG.base_le hgrow1
  refine hK.out _ _ (fun _ => hG2.S2 hms.out hij.out) ?_
  clear hK K hS hgrow1 hat1 hlt1 hown1 n12 hG hk
  try simp only [Act.put, List.setIfInBounds_toArray, List.set_cons_zero, List.set_cons_succ]
  have hG := hG2
  have hk := hk2
  have hS := hG.S2 hms.out hij.out
  clear hG2 hk2
  refine wpAnyL_ready (rs := [14]) (by kernel_rfl) (by simp) ?_
  refine AllReadyL.cons (o := { dst := some 33, op := Go.Op.nilCheck (Go.Operand.tmp 19), type := 0, pos := "ref.go:39", after := #[{ on := 0, ground := Go.Ground.data }, { on := 0, ground := Go.Ground.phase }, { on := 1, ground := Go.Ground.phase }, { on := 2, ground := Go.Ground.phase }, { on := 3, ground := Go.Ground.phase }, { on := 4, ground := Go.Ground.phase }, { on := 5, ground := Go.Ground.phase }, { on := 6, ground := Go.Ground.phase }, { on := 7, ground := Go.Ground.phase }, { on := 8, ground := Go.Ground.phase }, { on := 9, ground := Go.Ground.phase }, { on := 10, ground := Go.Ground.phase }, { on := 11, ground := Go.Ground.phase }, { on := 12, ground := Go.Ground.phase }, { on := 13, ground := Go.Ground.phase }], guard := none }) rfl (fun K hK => ?_) AllReadyL.nil
  go_simp
  refine hK.out _ _ (fun _ => hS) ?_
  clear hK K
  try simp only [Act.put, List.setIfInBounds_toArray, List.set_cons_zero, List.set_cons_succ]
  refine wpAnyL_ready (rs := [15]) (by kernel_rfl) (by simp) ?_
  refine AllReadyL.cons (o := { dst := some 34, op := Go.Op.fieldAddr 66 (Go.Operand.tmp 33) 1, type := 0, pos := "ref.go:39", after := #[{ on := 14, ground := Go.Ground.data }, { on := 0, ground := Go.Ground.phase }, { on := 1, ground := Go.Ground.phase }, { on := 2, ground := Go.Ground.phase }, { on := 3, ground := Go.Ground.phase }, { on := 4, ground := Go.Ground.phase }, { on := 5, ground := Go.Ground.phase }, { on := 6, ground := Go.Ground.phase }, { on := 7, ground := Go.Ground.phase }, { on := 8, ground := Go.Ground.phase }, { on := 9, ground := Go.Ground.phase }, { on := 10, ground := Go.Ground.phase }, { on := 11, ground := Go.Ground.phase }, { on := 12, ground := Go.Ground.phase }, { on := 13, ground := Go.Ground.phase }], guard := none }) rfl (fun K hK => ?_) AllReadyL.nil
  go_simp
  refine hK.out _ _ (fun _ => hS) ?_
  clear hK K
  try simp only [Act.put, List.setIfInBounds_toArray, List.set_cons_zero, List.set_cons_succ]
  refine wpAnyL_ready (rs := [16]) (by kernel_rfl) (by simp) ?_
  refine AllReadyL.cons (o := { dst := none, op := Go.Op.store 63 (Go.Operand.tmp 34) (Go.Operand.tmp 32), type := 0, pos := "ref.go:39", after := #[{ on := 15, ground := Go.Ground.data }, { on := 13, ground := Go.Ground.data }, { on := 13, ground := Go.Ground.chain }, { on := 0, ground := Go.Ground.phase }, { on := 1, ground := Go.Ground.phase }, { on := 2, ground := Go.Ground.phase }, { on := 3, ground := Go.Ground.phase }, { on := 4, ground := Go.Ground.phase }, { on := 5, ground := Go.Ground.phase }, { on := 6, ground := Go.Ground.phase }, { on := 7, ground := Go.Ground.phase }, { on := 8, ground := Go.Ground.phase }, { on := 9, ground := Go.Ground.phase }, { on := 10, ground := Go.Ground.phase }, { on := 11, ground := Go.Ground.phase }, { on := 12, ground := Go.Ground.phase }, { on := 13, ground := Go.Ground.phase }], guard := none }) rfl (fun K hK => ?_) AllReadyL.nil
  obtain ⟨⟨k1, k2, k3⟩, f1, f2, f3⟩ := hG.cells
  go_simp
  have hG2 := hG.set1 (.slice (some ⟨g1, 0, none⟩) (q.length + 1) cap1)
  have hk2 := hG.keepSet hk 1 (.slice (some ⟨g1, 0, none⟩) (q.length + 1) cap1)
  refine hK.out _ _ (late_no (by kernel_rfl)) ?_
  clear hK K hS hG hk k1 k2 k3 f1 f2 f3
  try simp only [Act.put, List.setIfInBounds_toArray, List.set_cons_zero, List.set_cons_succ]
  generalize W2.setCell ⟨x, 1, none⟩ (.slice (some ⟨g1, 0, none⟩) (q.length + 1) cap1) = W4 at *
  refine wpAnyL_done (by kernel_rfl) ?_ _
  go_wp2_with fail
  go_ret
  exact ⟨_, rfl, hG2.p, hk2⟩

end Go.Proofs.Ytfipifjlmepooaa
