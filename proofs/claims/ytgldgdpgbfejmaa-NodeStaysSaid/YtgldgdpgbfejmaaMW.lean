/- The law's 'like': a node is the document's. -/
import Derived.Test.YtgldgdpgbfejmaaYv
import Derived.Deep.Slices
import Derived.OpenShut
import Derived.ChangeOld
namespace Go.Proofs.Ytgldgdpgbfejmaa
open Go.RowKit Go.Lib Go.Conc
set_option linter.unusedVariables false
set_option linter.unusedSimpArgs false
set_option maxRecDepth 1000000 in
set_option maxHeartbeats 8000000 in
theorem like_post (post : Ending → World → Prop) (base p c xb wb i : Nat) (lw tw Nv Lv vl : Value) (ts : List (Option Nat)) (lv : List Bool) (bl : List Nat) (bs : List NB) (ns : List (RN × Value)) (nb : NB) (r : RN) (w : World)
    (hT : Tks w p c ts lv) (hA : RefA base w xb Nv Lv ns lv) (hL : Li base w wb p xb lw tw ts bl bs) (hN : NodeIs base w ts bl nb r) (hkid : ∀ i k, r.S i = .kd k → k < bl.length) (hbl : bl.length ≤ 900) (hns : ns.length ≤ 900) (ho : r.ow < 5) (hx : r.L.length ≤ 700) (hi : bl[i]? = some nb.b) (hj : ns[i]? = some (r, vl)) (hpost : ∀ w', Below w.heap.size w w' → post (.returned (.bool true)) w') :
    Calls Try.prog 15 #[at0 wb, .int .i64 i] w post := by
  obtain ⟨lg, lc, rfl, hlt, e2⟩ := hL.l.atK i nb.b hi
  have c0 : w.cell? ⟨wb, 0, none⟩ = some (.slice (some ⟨lg, 0, none⟩) bl.length lc) := hL.blk.cell 0
  have c3 : w.cell? ⟨wb, 3, none⟩ = some (.pointer (some ⟨xb, 0, none⟩)) := hL.blk.cell 3
  obtain ⟨x0, x1⟩ := hA.cells
  obtain ⟨g, cap, rfl, hlt2, hrg, hfz⟩ := hA.node i (r, vl) hj
  have hvl := hA.ls (r, vl) (List.mem_of_getElem? hj)
  have hs85 : (Try.prog.info? 85).map (·.size) = some (rcells r vl).length := by rw [rcells_len]; exact size85
  have I1 : (i : Int) < (bl.length : Int) := by omega
  have I2 : (i : Int) < (ns.length : Int) := by omega
  have hvl1 : vl.oneCell' = true := by
    rcases hvl.2 with ⟨e, _⟩ | ⟨_, _, _, e, _⟩ <;> (simp only at e; rw [e]; rfl)
  have hBZ := Blk.new w.drew 85 Try.zeroCells85
  obtain ⟨W1, hW1⟩ : ∃ W1, W1 = (w.drew.alloc (.cells Try.zeroCells85 85)).setRow w.drew.heap.size (rcells r vl).toArray := ⟨_, rfl⟩
  have hst : (storeCells ⟨w.drew.heap.size, 0, none⟩ (rcells r vl)).run Try.prog (w.drew.alloc (.cells Try.zeroCells85 85)) = .ok () W1 := by
    have := run_storeCells_at Try.prog w.drew.heap.size 0 85 (rcells r vl) 0 Try.zeroCells85 _ hBZ (by rw [rcells_len, zc85]; omega) (rcells_one r vl hvl1)
    rw [this, hW1]
    have e0 : (Try.zeroCells85.toList.take (0 + 0) ++ rcells r vl ++ Try.zeroCells85.toList.drop (0 + 0 + (rcells r vl).length)) = rcells r vl := by
      rw [rcells_len, List.drop_of_length_le (by rw [Array.length_toList, zc85]; omega), List.append_nil]; rfl
    rw [e0]
  have hB1 : Blk W1 w.drew.heap.size 85 (rcells r vl).toArray := by rw [hW1]; exact hBZ.row _
  have hd : Below w.heap.size w w.drew := (Below.refl _ w).drew
  have hBA : Below w.heap.size w (w.drew.alloc (.cells Try.zeroCells85 85)) := hd.alloc (Nat.le_refl _) _
  have hBe1 : Below w.heap.size w W1 := by rw [hW1]; exact below_setRow hBA (Nat.le_refl _) _
  have hS : (fun w' : World => w'.cell? ⟨wb, 0, none⟩ = some (.slice (some ⟨lg, 0, none⟩) bl.length lc) ∧ w'.cell? ⟨wb, 3, none⟩ = some (.pointer (some ⟨xb, 0, none⟩)) ∧ w'.cell? ⟨lg, i, none⟩ = some (.pointer (some ⟨nb.b, 0, none⟩)) ∧ w'.cell? ⟨xb, 0, none⟩ = some (.slice (some ⟨g, 0, none⟩) ns.length cap) ∧ w'.rangeAt g (i * 131) (rcells r vl)) w.drew := ⟨c0, c3, e2, x0, hrg⟩
  have hSA : (fun w' : World => w'.cell? ⟨wb, 0, none⟩ = some (.slice (some ⟨lg, 0, none⟩) bl.length lc) ∧ w'.cell? ⟨wb, 3, none⟩ = some (.pointer (some ⟨xb, 0, none⟩)) ∧ w'.cell? ⟨lg, i, none⟩ = some (.pointer (some ⟨nb.b, 0, none⟩)) ∧ w'.cell? ⟨xb, 0, none⟩ = some (.slice (some ⟨g, 0, none⟩) ns.length cap) ∧ w'.rangeAt g (i * 131) (rcells r vl)) (w.drew.alloc (.cells Try.zeroCells85 85)) := ⟨(hBA.cell (World.block_lt_of_cell? w _ c0)).trans c0, (hBA.cell (World.block_lt_of_cell? w _ c3)).trans c3, (hBA.cell (World.block_lt_of_cell? w _ e2)).trans e2, (hBA.cell (World.block_lt_of_cell? w _ x0)).trans x0, fun j u hu => (hBA.cell (World.block_lt_of_cell? w _ (hrg j u hu))).trans (hrg j u hu)⟩
  obtain ⟨d, nn, xp, ks, hv, -, -⟩ := hN.ndv
  have hbu : ∀ q, Calls Try.prog 27 #[at0 nb.b] (W1.drewN q) fun e w' => e = .returned (.bool r.bk) ∧ w' = W1.drewN q := fun q => (isBucket_any base nb.b _ r.bk d nn nb.pv nb.kv xp ks (W1.drewN q) (hv.below ⟨hBe1.os, hBe1.tape, hBe1.output, hBe1.size, hBe1.block⟩)).mono fun e w' ⟨a, b⟩ => ⟨a, b.symm⟩
  have o0 := hB1.rc 0 (by omega)
  rw [rcell_bk] at o0
  have HF := Lib.hid (fun (q : Nat) => like7_any post base p c xb wb w.drew.heap.size _ tw _ Lv vl ts lv bl bs ns nb r w (W1.drewN q) hT hA hL hN hkid (by omega) ho hvl ⟨hBe1.os, hBe1.tape, hBe1.output, hBe1.size, hBe1.block⟩ hB1 hx hpost)
  obtain ⟨N, hNN⟩ : ∃ N, N = w.heap.size := ⟨_, rfl⟩
  have hdz : w.drew.heap.size = w.heap.size := rfl
  rw [hdz] at hst o0 HF
  clear hdz
  rw [← hNN] at hst o0 HF
  clear hpost hT hA hL hN hkid hvl hvl1 hBZ hW1 hB1 hd hBA hBe1 hv c0 c3 e2 x0 x1 hfz
  unfold at0 at hbu ⊢
  go_enter Try.func15, Try.ntmps15
  go_upto_region 1 with (fail)
  refine wp_region_late (S := fun w' => w'.cell? ⟨wb, 0, none⟩ = some (.slice (some ⟨lg, 0, none⟩) bl.length lc) ∧ w'.cell? ⟨wb, 3, none⟩ = some (.pointer (some ⟨xb, 0, none⟩)) ∧ w'.cell? ⟨lg, i, none⟩ = some (.pointer (some ⟨nb.b, 0, none⟩)) ∧ w'.cell? ⟨xb, 0, none⟩ = some (.slice (some ⟨g, 0, none⟩) ns.length cap) ∧ w'.rangeAt g (i * 131) (rcells r vl)) (st := 19) (by kernel_rfl) ?_
  have HNN := Lib.hid hNN
  have hlR := rcells_len r vl
  clear hNN
  obtain ⟨WA, hWA⟩ : ∃ WA, WA = w.drew.alloc (.cells Try.zeroCells85 85) := ⟨_, rfl⟩
  have hal : ∀ z, z = Try.zeroCells85 → w.drew.alloc (.cells z 85) = WA := fun z e => by rw [e, hWA]
  rw [← hWA] at hst hSA
  clear hWA
  change wpAnyL _ _ _ _ _ _ _ _ _ w.drew
  refine wpAnyL_take0 (i := 0) (oi := { dst := some 21, op := Go.Op.move (Go.Operand.tmp 0), type := 24, pos := "law.go:91", after := #[], guard := none }) (v := .pointer (some ⟨wb, 0, none⟩)) rfl (by kernel_rfl) (by kernel_rfl) (by kernel_rfl) (by kernel_rfl) (fun _ _ _ h => h) hS (Or.inl ⟨by rfl, fun w hSw => ?_⟩) ?_
  · go_split_ands
    go_simp
  try simp only [Act.put, List.setIfInBounds_toArray, List.set_cons_zero, List.set_cons_succ]
  refine wpAnyL_take0 (i := 1) (oi := { dst := some 22, op := Go.Op.nilCheck (Go.Operand.tmp 21), type := 0, pos := "law.go:91", after := #[{ on := 0, ground := Go.Ground.data }], guard := none }) (v := .pointer (some ⟨wb, 0, none⟩)) rfl (by kernel_rfl) (by kernel_rfl) (by kernel_rfl) (by kernel_rfl) (fun _ _ _ h => h) hS (Or.inl ⟨by rfl, fun w hSw => ?_⟩) ?_
  · go_split_ands
    go_simp
  try simp only [Act.put, List.setIfInBounds_toArray, List.set_cons_zero, List.set_cons_succ]
  refine wpAnyL_take0 (i := 2) (oi := { dst := some 23, op := Go.Op.fieldAddr 36 (Go.Operand.tmp 22) 0, type := 0, pos := "law.go:91", after := #[{ on := 1, ground := Go.Ground.data }], guard := none }) (v := .pointer (some ⟨wb, 0, none⟩)) rfl (by kernel_rfl) (by kernel_rfl) (by kernel_rfl) (by kernel_rfl) (fun _ _ _ h => h) hS (Or.inl ⟨by rfl, fun w hSw => ?_⟩) ?_
  · go_split_ands
    go_simp
  try simp only [Act.put, List.setIfInBounds_toArray, List.set_cons_zero, List.set_cons_succ]
  refine wpAnyL_take (i := 3) (oi := { dst := some 24, op := Go.Op.load 31 (Go.Operand.tmp 23), type := 31, pos := "law.go:91", after := #[{ on := 2, ground := Go.Ground.data }], guard := none }) (v := .slice (some ⟨lg, 0, none⟩) bl.length lc) rfl (by kernel_rfl) (by kernel_rfl) (by kernel_rfl) (by kernel_rfl) (fun _ _ _ h => h) hS (Or.inl ⟨by rfl, fun w hSw => ?_⟩) ?_
  · go_split_ands
    go_simp
  try simp only [Act.put, List.setIfInBounds_toArray, List.set_cons_zero, List.set_cons_succ]
  refine wpAnyL_take0 (i := 4) (oi := { dst := some 25, op := Go.Op.move (Go.Operand.tmp 1), type := 3, pos := "law.go:91", after := #[], guard := none }) (v := .int .i64 i) rfl (by kernel_rfl) (by kernel_rfl) (by kernel_rfl) (by kernel_rfl) (fun _ _ _ h => h) hS (Or.inl ⟨by rfl, fun w hSw => ?_⟩) ?_
  · go_split_ands
    go_simp
  try simp only [Act.put, List.setIfInBounds_toArray, List.set_cons_zero, List.set_cons_succ]
  refine wpAnyL_take0 (i := 5) (oi := { dst := some 26, op := Go.Op.indexAddr 31 (Go.Operand.tmp 24) (Go.Operand.tmp 25), type := 0, pos := "law.go:91", after := #[{ on := 3, ground := Go.Ground.data }, { on := 4, ground := Go.Ground.data }], guard := none }) (v := .pointer (some ⟨lg, i, none⟩)) rfl (by kernel_rfl) (by kernel_rfl) (by kernel_rfl) (by kernel_rfl) (fun _ _ _ h => h) hS (Or.inl ⟨by rfl, fun w hSw => ?_⟩) ?_
  · go_split_ands
    go_simp
  try simp only [Act.put, List.setIfInBounds_toArray, List.set_cons_zero, List.set_cons_succ]
  refine wpAnyL_take (i := 6) (oi := { dst := some 27, op := Go.Op.load 39 (Go.Operand.tmp 26), type := 39, pos := "law.go:91", after := #[{ on := 5, ground := Go.Ground.data }], guard := none }) (v := .pointer (some ⟨nb.b, 0, none⟩)) rfl (by kernel_rfl) (by kernel_rfl) (by kernel_rfl) (by kernel_rfl) (fun _ _ _ h => h) hS (Or.inl ⟨by rfl, fun w hSw => ?_⟩) ?_
  · go_split_ands
    go_simp
  try simp only [Act.put, List.setIfInBounds_toArray, List.set_cons_zero, List.set_cons_succ]
  refine wpAnyL_take0 (i := 7) (oi := { dst := some 28, op := Go.Op.move (Go.Operand.tmp 0), type := 24, pos := "law.go:91", after := #[{ on := 18, ground := Go.Ground.gcOnly Go.Departure.lateStores }], guard := none }) (v := .pointer (some ⟨wb, 0, none⟩)) rfl (by kernel_rfl) (by kernel_rfl) (by kernel_rfl) (by kernel_rfl) (fun _ _ _ h => h) hS (Or.inl ⟨by rfl, fun w hSw => ?_⟩) ?_
  · go_split_ands
    go_simp
  try simp only [Act.put, List.setIfInBounds_toArray, List.set_cons_zero, List.set_cons_succ]
  refine wpAnyL_take0 (i := 8) (oi := { dst := some 29, op := Go.Op.nilCheck (Go.Operand.tmp 28), type := 0, pos := "law.go:91", after := #[{ on := 7, ground := Go.Ground.data }, { on := 18, ground := Go.Ground.gcOnly Go.Departure.lateStores }], guard := none }) (v := .pointer (some ⟨wb, 0, none⟩)) rfl (by kernel_rfl) (by kernel_rfl) (by kernel_rfl) (by kernel_rfl) (fun _ _ _ h => h) hS (Or.inl ⟨by rfl, fun w hSw => ?_⟩) ?_
  · go_split_ands
    go_simp
  try simp only [Act.put, List.setIfInBounds_toArray, List.set_cons_zero, List.set_cons_succ]
  refine wpAnyL_take0 (i := 9) (oi := { dst := some 30, op := Go.Op.fieldAddr 36 (Go.Operand.tmp 29) 3, type := 0, pos := "law.go:91", after := #[{ on := 8, ground := Go.Ground.data }, { on := 18, ground := Go.Ground.gcOnly Go.Departure.lateStores }], guard := none }) (v := .pointer (some ⟨wb, 3, none⟩)) rfl (by kernel_rfl) (by kernel_rfl) (by kernel_rfl) (by kernel_rfl) (fun _ _ _ h => h) hS (Or.inl ⟨by rfl, fun w hSw => ?_⟩) ?_
  · go_split_ands
    go_simp
  try simp only [Act.put, List.setIfInBounds_toArray, List.set_cons_zero, List.set_cons_succ]
  refine wpAnyL_take (i := 10) (oi := { dst := some 31, op := Go.Op.load 34 (Go.Operand.tmp 30), type := 34, pos := "law.go:91", after := #[{ on := 9, ground := Go.Ground.data }, { on := 18, ground := Go.Ground.gcOnly Go.Departure.lateStores }], guard := none }) (v := .pointer (some ⟨xb, 0, none⟩)) rfl (by kernel_rfl) (by kernel_rfl) (by kernel_rfl) (by kernel_rfl) (fun _ _ _ h => h) hS (Or.inl ⟨by rfl, fun w hSw => ?_⟩) ?_
  · go_split_ands
    go_simp
  try simp only [Act.put, List.setIfInBounds_toArray, List.set_cons_zero, List.set_cons_succ]
  refine wpAnyL_take0 (i := 11) (oi := { dst := some 32, op := Go.Op.nilCheck (Go.Operand.tmp 31), type := 0, pos := "law.go:91", after := #[{ on := 10, ground := Go.Ground.data }, { on := 18, ground := Go.Ground.gcOnly Go.Departure.lateStores }], guard := none }) (v := .pointer (some ⟨xb, 0, none⟩)) rfl (by kernel_rfl) (by kernel_rfl) (by kernel_rfl) (by kernel_rfl) (fun _ _ _ h => h) hS (Or.inl ⟨by rfl, fun w hSw => ?_⟩) ?_
  · go_split_ands
    go_simp
  try simp only [Act.put, List.setIfInBounds_toArray, List.set_cons_zero, List.set_cons_succ]
  refine wpAnyL_take0 (i := 12) (oi := { dst := some 33, op := Go.Op.fieldAddr 89 (Go.Operand.tmp 32) 0, type := 0, pos := "law.go:91", after := #[{ on := 11, ground := Go.Ground.data }, { on := 18, ground := Go.Ground.gcOnly Go.Departure.lateStores }], guard := none }) (v := .pointer (some ⟨xb, 0, none⟩)) rfl (by kernel_rfl) (by kernel_rfl) (by kernel_rfl) (by kernel_rfl) (fun _ _ _ h => h) hS (Or.inl ⟨by rfl, fun w hSw => ?_⟩) ?_
  · go_split_ands
    go_simp
  try simp only [Act.put, List.setIfInBounds_toArray, List.set_cons_zero, List.set_cons_succ]
  refine wpAnyL_take (i := 13) (oi := { dst := some 34, op := Go.Op.load 86 (Go.Operand.tmp 33), type := 86, pos := "law.go:91", after := #[{ on := 12, ground := Go.Ground.data }, { on := 18, ground := Go.Ground.gcOnly Go.Departure.lateStores }], guard := none }) (v := .slice (some ⟨g, 0, none⟩) ns.length cap) rfl (by kernel_rfl) (by kernel_rfl) (by kernel_rfl) (by kernel_rfl) (fun _ _ _ h => h) hS (Or.inl ⟨by rfl, fun w hSw => ?_⟩) ?_
  · go_split_ands
    go_simp
  try simp only [Act.put, List.setIfInBounds_toArray, List.set_cons_zero, List.set_cons_succ]
  refine wpAnyL_take0 (i := 14) (oi := { dst := some 35, op := Go.Op.move (Go.Operand.tmp 1), type := 3, pos := "law.go:91", after := #[{ on := 18, ground := Go.Ground.gcOnly Go.Departure.lateStores }], guard := none }) (v := .int .i64 i) rfl (by kernel_rfl) (by kernel_rfl) (by kernel_rfl) (by kernel_rfl) (fun _ _ _ h => h) hS (Or.inl ⟨by rfl, fun w hSw => ?_⟩) ?_
  · go_split_ands
    go_simp
  try simp only [Act.put, List.setIfInBounds_toArray, List.set_cons_zero, List.set_cons_succ]
  refine wpAnyL_take0 (i := 15) (oi := { dst := some 36, op := Go.Op.indexAddr 86 (Go.Operand.tmp 34) (Go.Operand.tmp 35), type := 0, pos := "law.go:91", after := #[{ on := 13, ground := Go.Ground.data }, { on := 14, ground := Go.Ground.data }, { on := 18, ground := Go.Ground.gcOnly Go.Departure.lateStores }], guard := none }) (v := .pointer (some ⟨g, i * 131, none⟩)) rfl (by kernel_rfl) (by kernel_rfl) (by kernel_rfl) (by kernel_rfl) (fun _ _ _ h => h) hS (Or.inl ⟨by rfl, fun w hSw => ?_⟩) ?_
  · go_split_ands
    go_simp
  try simp only [Act.put, List.setIfInBounds_toArray, List.set_cons_zero, List.set_cons_succ]
  refine wpAnyL_take (i := 16) (oi := { dst := some 37, op := Go.Op.load 85 (Go.Operand.tmp 36), type := 85, pos := "law.go:91", after := #[{ on := 15, ground := Go.Ground.data }, { on := 18, ground := Go.Ground.gcOnly Go.Departure.lateStores }], guard := none }) (v := .agg (rcells r vl).toArray) rfl (by kernel_rfl) (by kernel_rfl) (by kernel_rfl) (by kernel_rfl) (fun _ _ _ h => h) hS (yieldsIf_load_mid (by rfl) 85 _ rfl g (i * 131) rfl (rcells r vl) _ (fun w hSw => hSw.2.2.2.2) Try.underlying85 rfl hs85) ?_
  try simp only [Act.put, List.setIfInBounds_toArray, List.set_cons_zero, List.set_cons_succ]
  refine wpAnyL_ready (rs := [17]) (by kernel_rfl) (by simp) ?_
  refine AllReadyL.cons (o := { dst := some 6, op := Go.Op.alloc 85, type := 0, pos := "law.go:91", after := #[], guard := none }) rfl (fun K hK => ?_) AllReadyL.nil
  go_simp
  rw [← HNN.out]
  refine hK.out _ _ (fun _ => hSA) ?_
  clear hK K hS
  try simp only [Act.put, List.setIfInBounds_toArray, List.set_cons_zero, List.set_cons_succ]
  have hS := hSA
  refine wpAnyL_take0 (i := 18) (oi := { dst := some 5, op := Go.Op.assign (Go.Operand.tmp 27), type := 39, pos := "law.go:91", after := #[{ on := 6, ground := Go.Ground.data }, { on := 0, ground := Go.Ground.phase }, { on := 1, ground := Go.Ground.phase }, { on := 2, ground := Go.Ground.phase }, { on := 3, ground := Go.Ground.phase }, { on := 4, ground := Go.Ground.phase }, { on := 5, ground := Go.Ground.phase }, { on := 6, ground := Go.Ground.phase }, { on := 7, ground := Go.Ground.textOnly Go.Departure.lateStores }, { on := 8, ground := Go.Ground.textOnly Go.Departure.lateStores }, { on := 9, ground := Go.Ground.textOnly Go.Departure.lateStores }, { on := 10, ground := Go.Ground.textOnly Go.Departure.lateStores }, { on := 11, ground := Go.Ground.textOnly Go.Departure.lateStores }, { on := 12, ground := Go.Ground.textOnly Go.Departure.lateStores }, { on := 13, ground := Go.Ground.textOnly Go.Departure.lateStores }, { on := 14, ground := Go.Ground.textOnly Go.Departure.lateStores }, { on := 15, ground := Go.Ground.textOnly Go.Departure.lateStores }, { on := 16, ground := Go.Ground.textOnly Go.Departure.lateStores }, { on := 17, ground := Go.Ground.phase }], guard := none }) (v := .pointer (some ⟨nb.b, 0, none⟩)) rfl (by kernel_rfl) (by kernel_rfl) (by kernel_rfl) (by kernel_rfl) (fun _ _ _ h => h) hS (Or.inl ⟨by rfl, fun w hSw => ?_⟩) ?_
  · go_split_ands
    go_simp
  try simp only [Act.put, List.setIfInBounds_toArray, List.set_cons_zero, List.set_cons_succ]
  refine wpAnyL_ready (rs := [19]) (by kernel_rfl) (by simp) ?_
  refine AllReadyL.cons (o := { dst := none, op := Go.Op.store 85 (Go.Operand.tmp 6) (Go.Operand.tmp 37), type := 0, pos := "law.go:91", after := #[{ on := 17, ground := Go.Ground.data }, { on := 16, ground := Go.Ground.data }, { on := 18, ground := Go.Ground.chain }, { on := 0, ground := Go.Ground.phase }, { on := 1, ground := Go.Ground.phase }, { on := 2, ground := Go.Ground.phase }, { on := 3, ground := Go.Ground.phase }, { on := 4, ground := Go.Ground.phase }, { on := 5, ground := Go.Ground.phase }, { on := 6, ground := Go.Ground.phase }, { on := 7, ground := Go.Ground.phase }, { on := 8, ground := Go.Ground.phase }, { on := 9, ground := Go.Ground.phase }, { on := 10, ground := Go.Ground.phase }, { on := 11, ground := Go.Ground.phase }, { on := 12, ground := Go.Ground.phase }, { on := 13, ground := Go.Ground.phase }, { on := 14, ground := Go.Ground.phase }, { on := 15, ground := Go.Ground.phase }, { on := 16, ground := Go.Ground.phase }, { on := 17, ground := Go.Ground.phase }, { on := 18, ground := Go.Ground.phase }], guard := none }) rfl (fun K hK => ?_) AllReadyL.nil
  go_simp
  refine hK.out _ _ (late_noR (by kernel_rfl)) ?_
  clear hK K hS hSA hst hlR
  try simp only [Act.put, List.setIfInBounds_toArray, List.set_cons_zero, List.set_cons_succ]
  refine wpAnyL_done (by kernel_rfl) ?_ _
  cases hbk : r.bk with
  | true =>
    rw [hbk] at hbu o0
    go_upto_region 2 with (fail)
    go_quiet ((go_at_call 27; exact Calls.quiet_of_same (hbu _)))
    have HFq := Lib.hid (HF.out nq)
    clear HF hbu o0
    generalize W1.drewN nq = W at *
    repeat (first | exact HFq.out _ _ _ _ _ _ _ _ _ _ _ _ _ _ _ _ _ _ _ _ _ _ _ _ _ _ _ _ _ _ _ _ _ _ _ _ _ _ _ _ _ _ _ _ _ _ _ _ _ _ _ _ _ _ _ _ _ _ _ _ _ _ _ _ _ _ _ _ _ _ _ _ _ _ _ _ _ _ _ _ _ _ _ _ _ _ _ _ _ _ _ _ _ _ _ _ _ _ _ _ _ _ _ _ _ _ _ _ _ _ _ _ _ _ _ _ _ _ _ _ _ _ _ _ _ _ _ _ _ _ _ _ _ _ _ _ _ _ _ _ _ _ _ _ _ _ _ _ _ _ _ _ _ _ _ _ _ _ _ _ _ _ _ _ _ _ _ _ _ _ _ _ _ _ _ _ _ _ _ _ _ _ _ _ _ _ _ _ _ _ _ _ _ _ _ _ _ _ _ _ _ _ _ _ _ _ _ _ _ _ _ _ _ _ _ _ _ _ _ _ _ _ _ _ _ _ _ _ _ _ _ | go_step)
  | false =>
    rw [hbk] at hbu o0
    go_upto_region 2 with (fail)
    go_quiet ((go_at_call 27; exact Calls.quiet_of_same (hbu _)))
    have HFq := Lib.hid (HF.out nq)
    clear HF hbu o0
    generalize W1.drewN nq = W at *
    repeat (first | exact HFq.out _ _ _ _ _ _ _ _ _ _ _ _ _ _ _ _ _ _ _ _ _ _ _ _ _ _ _ _ _ _ _ _ _ _ _ _ _ _ _ _ _ _ _ _ _ _ _ _ _ _ _ _ _ _ _ _ _ _ _ _ _ _ _ _ _ _ _ _ _ _ _ _ _ _ _ _ _ _ _ _ _ _ _ _ _ _ _ _ _ _ _ _ _ _ _ _ _ _ _ _ _ _ _ _ _ _ _ _ _ _ _ _ _ _ _ _ _ _ _ _ _ _ _ _ _ _ _ _ _ _ _ _ _ _ _ _ _ _ _ _ _ _ _ _ _ _ _ _ _ _ _ _ _ _ _ _ _ _ _ _ _ _ _ _ _ _ _ _ _ _ _ _ _ _ _ _ _ _ _ _ _ _ _ _ _ _ _ _ _ _ _ _ _ _ _ _ _ _ _ _ _ _ _ _ _ _ _ _ _ _ _ _ _ _ _ _ _ _ _ _ _ _ _ _ _ _ _ _ _ _ _ | go_step)
end Go.Proofs.Ytgldgdpgbfejmaa
/- A list of acts that was handed in. -/
namespace Go.Proofs.Ytgldgdpgbfejmaa
open Go.ChangeShapes Go.WideShapes Go.RowKit Go.Lib Go.Deep
set_option linter.unusedVariables false
set_option linter.unusedSimpArgs false
/-- an act's cells behind an address -/
def ActAt (w : World) (x : Addr) : Prop := ∃ (dd na ka ta : Nat) (i : Int) (q : Pr), dd < 256 ∧ na < 256 ∧ ka < 256 ∧ ta < 256 ∧ q.1.size ≤ maxLen ∧ ∀ (k : Nat) (u : Value), [Value.int .u8 dd, .int .u8 na, .int .u8 ka, .int .u8 ta, .int .i64 i, .string q.1, .string q.2][k]? = some u → w.cell? (x.add k) = some u
def ArgA (w : World) (a : Option Addr) (len cap : Nat) : Prop :=
  (a = none ∧ len = 0 ∧ cap = 0) ∨ ∃ x, a = some x ∧ len ≤ cap ∧ cap ≤ maxLen ∧ ∀ j, j < len → ActAt w (x.add (j * 7))
theorem ActAt.below {w w' : World} {x : Addr} (h : ActAt w x) (hb : Below w.heap.size w w') : ActAt w' x := by
  obtain ⟨dd, na, ka, ta, i, q, h1, h2, h3, h4, h5, hc⟩ := h
  exact ⟨dd, na, ka, ta, i, q, h1, h2, h3, h4, h5, fun k u hk => (hb.cell (World.block_lt_of_cell? w _ (hc k u hk))).trans (hc k u hk)⟩
theorem ArgA.below {w w' : World} {a : Option Addr} {len cap : Nat} (h : ArgA w a len cap) (hb : Below w.heap.size w w') : ArgA w' a len cap := by
  rcases h with h | ⟨x, rfl, h1, h2, h3⟩
  · exact .inl h
  · exact .inr ⟨x, rfl, h1, h2, fun j hj => (h3 j hj).below hb⟩
theorem ArgA.len_le {w : World} {a : Option Addr} {len cap : Nat} (h : ArgA w a len cap) : len ≤ maxLen := by
  rcases h with ⟨_, h, _⟩ | ⟨x, rfl, hl, hm, _⟩
  · omega
  · omega
theorem u8_nat {n : Int} (h : (Lit.int .u8 n).wf = true) : ∃ m : Nat, n = m ∧ m < 256 := by
  simp [Lit.wf, IntKind.min, IntKind.max, IntKind.signed, IntKind.bits] at h
  exact ⟨n.toNat, by omega, by omega⟩
theorem fields29 : ∃ f0 f1 f2 f3 f4 f5, Try.prog.underlying 29 = some (.struct #[f0, f1, f2, f3, f4, f5]) ∧ (f0.offset = 0 ∧ f1.offset = 1 ∧ f2.offset = 2 ∧ f3.offset = 3 ∧ f4.offset = 4 ∧ f5.offset = 5) ∧ f0.type = 5 ∧ f1.type = 5 ∧ f2.type = 5 ∧ f3.type = 5 ∧ f4.type = 3 ∧ f5.type = 27 := ⟨_, _, _, _, _, _, Try.underlying29, ⟨rfl, rfl, rfl, rfl, rfl, rfl⟩, rfl, rfl, rfl, rfl, rfl, rfl⟩
theorem cellsOf29 : Try.prog.cellsOf 29 = 7 := by kernel_rfl
theorem cellsOf5 : Try.prog.cellsOf 5 = 1 := by kernel_rfl
theorem cellsOf3 : Try.prog.cellsOf 3 = 1 := by kernel_rfl
theorem cellsOf27 : Try.prog.cellsOf 27 = 2 := by kernel_rfl
theorem cellsOf9 : Try.prog.cellsOf 9 = 1 := by kernel_rfl
theorem list2 {α : Type} (l : List α) (h : l.length = 2) : ∃ a b, l = [a, b] := by
  rcases l with _ | ⟨a, _ | ⟨b, _ | ⟨c, l⟩⟩⟩ <;> first | (exact ⟨_, _, rfl⟩) | (simp at h)
theorem list6 {α : Type} (l : List α) (h : l.length = 6) : ∃ a b c d e f, l = [a, b, c, d, e, f] := by
  rcases l with _ | ⟨a, _ | ⟨b, _ | ⟨c, _ | ⟨d, _ | ⟨e, _ | ⟨f, _ | ⟨g, l⟩⟩⟩⟩⟩⟩⟩ <;> first | (exact ⟨_, _, _, _, _, _, rfl⟩) | (simp at h)
theorem list7 {α : Type} (l : List α) (h : l.length = 7) : ∃ a b c d e f g, l = [a, b, c, d, e, f, g] := by
  rcases l with _ | ⟨a, l⟩
  · simp at h
  · obtain ⟨b, c, d, e, f, g, rfl⟩ := list6 l (by simpa using h)
    exact ⟨_, _, _, _, _, _, _, rfl⟩
theorem open_acts {H : Type} {enc : TypeId × Value → H} {W : World} {base : Nat} {spare : Nat → Bool} {held : Bool} {a : Option Addr} {len cap : Nat} {d : DataW H} {p : List MemPlace}
    (h : DataW.Trod enc Try.prog W base spare held 22 (.slice a len cap) d p) : ArgA W a len cap := by
  obtain ⟨fuel, hf⟩ := h
  rcases open_slice Try.underlying22 hf with ⟨hcs, _⟩ | ⟨x, l, c, m, n, D, Pl, hcs, _, hl, hm, hmm, _, hx⟩
  · simp [Value.cells] at hcs
    obtain ⟨rfl, rfl, rfl⟩ := hcs
    exact .inl ⟨rfl, rfl, rfl⟩
  · simp [Value.cells] at hcs
    obtain ⟨rfl, rfl, rfl⟩ := hcs
    have hlm : len ≤ m := by rw [hmm]; split <;> omega
    refine .inr ⟨x, rfl, hl, hm, fun j hj => ?_⟩
    obtain ⟨cs', h1, h2⟩ := hx j (by omega)
    rw [cellsOf29] at h1
    obtain ⟨_, hlen, hcell⟩ := World.cells?_some h1
    obtain ⟨f0, f1, f2, f3, f4, f5, hu, ⟨o0, o1, o2, o3, o4, o5⟩, t0, t1, t2, t3, t4, t5⟩ := fields29
    obtain ⟨xs, k, hk, hxy, _, hxl, hff⟩ := DataW.trod_struct hu h2
    obtain ⟨y0, y1, y2, y3, y4, y5, rfl⟩ := list6 xs hxl
    obtain ⟨v0, v1, v2, v3, v4, v5, v6, rfl⟩ := list7 cs' hlen
    · skip
      have g0 := hff 0 f0 rfl
      have g1 := hff 1 f1 rfl
      have g2 := hff 2 f2 rfl
      have g3 := hff 3 f3 rfl
      have g4 := hff 4 f4 rfl
      have g5 := hff 5 f5 rfl
      simp [o0, o1, o2, o3, o4, o5, t0, t1, t2, t3, t4, t5, cellsOf5, cellsOf3, cellsOf27] at g0 g1 g2 g3 g4 g5
      obtain ⟨n0, e0, _, b0⟩ := DataW.trod_int Try.underlying5 g0
      obtain ⟨n1, e1, _, b1⟩ := DataW.trod_int Try.underlying5 g1
      obtain ⟨n2, e2, _, b2⟩ := DataW.trod_int Try.underlying5 g2
      obtain ⟨n3, e3, _, b3⟩ := DataW.trod_int Try.underlying5 g3
      obtain ⟨n4, e4, _, b4⟩ := DataW.trod_int Try.underlying3 g4
      obtain ⟨F0, F1, hu2, p0, p1, s0, s1⟩ := fields33
      obtain ⟨ys, k2, _, _, _, hyl, hgg⟩ := DataW.trod_struct hu2 g5
      obtain ⟨z0, z1, rfl⟩ := list2 ys hyl
      · skip
        have q0 := hgg 0 F0 rfl
        have q1 := hgg 1 F1 rfl
        simp [p0, p1, s0, s1, cellsOf9] at q0 q1
        obtain ⟨S0, E0, _, B0⟩ := DataW.trod_string Try.underlying9 q0
        obtain ⟨S1, E1, _, B1⟩ := DataW.trod_string Try.underlying9 q1
        obtain ⟨m0, rfl, l0⟩ := u8_nat b0
        obtain ⟨m1, rfl, l1⟩ := u8_nat b1
        obtain ⟨m2, rfl, l2⟩ := u8_nat b2
        obtain ⟨m3, rfl, l3⟩ := u8_nat b3
        simp at e0 e1 e2 e3 e4 E0 E1
        refine ⟨m0, m1, m2, m3, n4, (S0, S1), l0, l1, l2, l3, B0, fun kk u hu => ?_⟩
        subst e0 e1 e2 e3 e4 E0 E1
        have hkk := (List.getElem?_eq_some_iff.1 hu).1
        have := hcell kk (by simpa using hkk)
        rw [this]
        exact hu
end Go.Proofs.Ytgldgdpgbfejmaa
