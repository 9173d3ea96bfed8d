/- joined: a branch that is not one any more. -/
import Derived.Test.YtimhdegdmdilaaaHai
namespace Go.Proofs.Ytimhdegdmdilaaa
open Go.RowKit Go.Lib
set_option linter.unusedVariables false
set_option maxRecDepth 100000
set_option linter.unnecessarySimpa false
set_option linter.unusedSimpArgs false
set_option linter.unnecessarySimpa false
set_option maxRecDepth 100000
def joinR (u : RX) : RX := match u.val, u.kids with
  | none, [c] => .node (u.lab ++ c.lab) c.val c.kids
  | _, _ => u
def JoinPost (P : Nat → Prop) (base b : Nat) (u : RX) (w : World) (e : Ending) (w' : World) : Prop := e = .returned (at0 b) ∧ MineW P base w' b (joinR u) ∧ Below base w w'
theorem join_stays (P : Nat → Prop) (base b : Nat) (u : RX) (tv : Value) (w : World) (hd : DeadT base w tv) (hb : base ≤ w.heap.size) (h : MineW P base w b u) (hn : u.val.isSome = true ∨ u.kids.length ≠ 1) (hk : u.kids.length ≤ 800) :
    Calls Try.prog 106 #[.agg #[tv], at0 b] w (JoinPost P base b u w) := by
  have hB1 := (Below.refl _ w).alloc (Nat.le_refl _) (.cells #[tv] 126)
  have hj : joinR u = u := by
    unfold joinR
    split
    · rename_i c h1 h2
      rcases hn with h | h
      · rw [h1] at h; cases h
      · rw [h2] at h; simp at h
    · rfl
  have h1 := h.below hB1
  obtain ⟨a, rfl⟩ := hd.form
  obtain ⟨kv, bs, hN, -, -⟩ := h1.ex
  obtain ⟨A, c, hkv⟩ : ∃ A c, kv = .slice A bs.length c := by
    rcases hN.row.2 with ⟨e, h0⟩ | ⟨g, cap, cur, e, _⟩
    · exact ⟨none, 0, by rw [e, h0]⟩
    · exact ⟨_, _, e⟩
  obtain ⟨o, lab, val, sh, e1, e2, hBm, c0, c1, c2, c3, c4, c5⟩ := hN.cells
  have hlen := hN.len
  unfold at0
  cases hv : u.val with
  | some y =>
    rw [hv] at c3
    simp at c3
    clear hBm hN
    go_enter Try.func106, Try.ntmps106
    go_wp2_with fail
    go_ret
    exact ⟨rfl, by rw [hj]; exact h1, hB1.mono hb⟩
  | none =>
    rw [hv] at c3 hn
    simp at c3 hn
    have L : ¬ ((bs.length : Int) = 1) := by omega
    clear hBm hN hlen
    go_enter Try.func106, Try.ntmps106
    go_wp2_with fail
    go_ret
    exact ⟨rfl, by rw [hj]; exact h1, hB1.mono hb⟩
theorem keep1 {w w' : World} {X : Nat} {x : Value} (h : w.cell? ⟨X, 0, none⟩ = some x) (hb : Below w.heap.size w w') : w'.cell? ⟨X, 0, none⟩ = some x := (hb.cell (World.block_lt_of_cell? w _ h)).trans h
theorem keep3 {w w' : World} {b : Nat} {x y z : Value} (h : w.cell? ⟨b, 2, none⟩ = some x ∧ w.cell? ⟨b, 3, none⟩ = some y ∧ w.cell? ⟨b, 4, none⟩ = some z) (hb : Below w.heap.size w w') : w'.cell? ⟨b, 2, none⟩ = some x ∧ w'.cell? ⟨b, 3, none⟩ = some y ∧ w'.cell? ⟨b, 4, none⟩ = some z :=
  ⟨(hb.cell (World.block_lt_of_cell? w _ h.1)).trans h.1, (hb.cell (World.block_lt_of_cell? w _ h.2.1)).trans h.2.1, (hb.cell (World.block_lt_of_cell? w _ h.2.2)).trans h.2.2⟩
theorem keep3s {w : World} {b kc i : Nat} {x y z : Value} (h : w.cell? ⟨kc, 2, none⟩ = some x ∧ w.cell? ⟨kc, 3, none⟩ = some y ∧ w.cell? ⟨kc, 4, none⟩ = some z) (hne : kc ≠ b) (v : Value) : (w.setCell ⟨b, i, none⟩ v).cell? ⟨kc, 2, none⟩ = some x ∧ (w.setCell ⟨b, i, none⟩ v).cell? ⟨kc, 3, none⟩ = some y ∧ (w.setCell ⟨b, i, none⟩ v).cell? ⟨kc, 4, none⟩ = some z := by
  have e : (w.setCell ⟨b, i, none⟩ v).heap[kc]? = w.heap[kc]? := Below.heap_setCell w ⟨b, i, none⟩ v kc hne
  simp only [World.cell?, e] at h ⊢
  exact h
theorem list_one {α : Type} {xs : List α} (h : xs.length = 1) : ∃ x, xs = [x] := by
  match xs, h with
  | [x], _ => exact ⟨x, rfl⟩
set_option maxHeartbeats 2000000 in
theorem join_kid (P : Nat → Prop) (base b : Nat) (u k : RX) (tv : Value) (w : World) (hd : DeadT base w tv) (hb : base ≤ w.heap.size) (h : MineW P base w b u) (hn : u.val = none) (hk : u.kids = [k]) (hk8 : k.kids.length ≤ 800) (hl1 : u.lab.length ≤ 100000) (hl2 : k.lab.length ≤ 100000) :
    Calls Try.prog 106 #[.agg #[tv], at0 b] w (JoinPost P base b u w) := by
  have hB1 := (Below.refl _ w).alloc (Nat.le_refl _) (.cells #[tv] 126)
  have hX1 := Blk.new w 126 #[tv]
  have hj : joinR u = .node (u.lab ++ k.lab) k.val k.kids := by unfold joinR; rw [hn, hk]
  have h1 := h.below hB1
  have hd1 := hd.stay hB1
  obtain ⟨a, rfl⟩ := hd.form
  obtain ⟨kv, bs, hN, hbb, hkids⟩ := h1.ex
  have hlen : bs.length = 1 := by rw [hN.len, hk]; rfl
  obtain ⟨kc, hbs⟩ := list_one hlen
  subst hbs
  obtain ⟨g, cap, hkv, hg0⟩ := hN.row.at_ 0 (by simp)
  simp only [List.getD_cons_zero, List.length_cons, List.length_nil] at hkv hg0
  subst hkv
  have hkid := (hkids 0 kc k (by simp) (by rw [hk]; rfl)).old
  have hkN : ∃ kv' bs', Nod 0 (w.alloc (.cells #[.pointer a] 126)) kc k kv' bs' ∧ kc ≠ b ∧ ∀ (i c : Nat) (k' : RX), bs'[i]? = some c → k.kids[i]? = some k' → RadW (fun x => (P x ∧ x ≠ b ∧ (Value.slice (some ⟨g, 0, none⟩) 1 cap).ownBlock ≠ some x) ∧ x < (w.alloc (.cells #[.pointer a] 126)).heap.size) (w.alloc (.cells #[.pointer a] 126)) c k' := by
    cases hkid with | mk a1 a2 a3 a4 => exact ⟨_, _, a1, a2.1.2.1, a4⟩
  obtain ⟨kv', bs', hK, hne, hkk⟩ := hkN
  obtain ⟨A', n', c', hkv'⟩ := hK.row.form
  subst hkv'
  have hlk := hK.len
  have hbk8 : bs'.length ≤ 800 := by omega
  have hbl := hN.lt
  have hi := inside_dead base base b kc u _ (.pointer a) [kc] _ hd1 hN
  obtain ⟨o, lab, val, sh, e1, e2, hBm, c0, c1, c2, c3, c4, c5⟩ := hN.cells
  obtain ⟨o', lab', val', sh', e1', e2', hBk, k0, k1, k2, k3, k4, k5⟩ := hK.cells
  rw [hn] at c3
  simp at c3
  have hsz1 : lab.size ≤ 100000 := by rw [← size_list, e1]; exact hl1
  have hsz2 : lab'.size ≤ 100000 := by rw [← size_list, e1']; exact hl2
  obtain ⟨W, hW⟩ : ∃ W, W = w.alloc (.cells #[.pointer a] 126) := ⟨_, rfl⟩
  have HW := Lib.hid hW
  have HBm := Lib.hid hBm
  have HBk := Lib.hid hBk
  have HE1 := Lib.hid e1
  have HE1' := Lib.hid e1'
  have HE2' := Lib.hid e2'
  have HKK := Lib.hid hkk
  have HJ := Lib.hid hj
  have HK := Lib.hid hK
  have HN := Lib.hid hN
  have HLK := Lib.hid hlk
  have HB1 := Lib.hid hB1
  have HD1 := Lib.hid hd1
  have hBx : (w.alloc (.cells #[.pointer a] 126)).cell? ⟨w.heap.size, 0, none⟩ = some (.pointer a) := hX1.cell 0
  clear hkids hkid h h1 hn hk hj hlen hBm hBk hd e1 e2 e1' e2' hkk hlk hK hN c0 c2 c5 k0 k5 hX1 hB1 hd1 hW
  unfold at0 at hg0 hi ⊢
  go_enter Try.func106, Try.ntmps106
  go_wp2_with fail
  obtain ⟨X, hXe⟩ : ∃ X, X = w.heap.size := ⟨_, rfl⟩
  rw [← hXe] at hBx ⊢
  rw [← HW.out] at hBx hi c1 c3 c4 k1 k2 k3 k4 hg0 hbl ⊢
  have HX := Lib.hid hXe
  clear hXe
  have d1 : DeadT base W.drew (.pointer a) := by rw [HW.out]; exact HD1.out.stay (Below.refl _ _).drew
  have n1 : Nod base W.drew b u (.slice (some ⟨g, 0, none⟩) 1 cap) [kc] := by rw [HW.out]; exact HN.out.stay (Below.refl _ _).drew
  have n2 : Nod 0 W.drew kc k (.slice A' n' c') bs' := by rw [HW.out]; exact HK.out.stay (Below.refl _ _).drew
  go_region_held3 (fun w' : World => w'.cell? ⟨X, 0, none⟩ = some (.pointer a)) (first | exact hBx | exact keep1 (by assumption) hB2 | go_keep) (first
    | (have _g := hB3; clear _g; go_at_call 113; refine (shares_dead base 0 kc k _ (.pointer a) bs' _ (d1.stay hB3) (n2.stay hB3) (by omega)).mono ?_; rintro e w3 ⟨rfl, hB2⟩; have hB4 := hB3.trans (hB2.mono hB3.size))
    | (go_at_call 101; refine (inside_dead base base b kc u _ (.pointer a) [kc] _ d1 n1).mono ?_; rintro e w2 ⟨rfl, hB2⟩; have hB3 := hB2))
  have hBW : Below W.heap.size W w3 := (Below.refl _ W).drew.trans hB4
  obtain ⟨z1, z4, y1, y2, y3, y4⟩ : w3.cell? ⟨b, 1, none⟩ = some (.string lab) ∧ b < w3.heap.size ∧ w3.cell? ⟨kc, 1, none⟩ = some (.string lab') ∧ w3.cell? ⟨kc, 2, none⟩ = some (.string val') ∧ w3.cell? ⟨kc, 3, none⟩ = some (.bool k.val.isSome) ∧ w3.cell? ⟨kc, 4, none⟩ = some (.slice A' n' c') := by
    have l1 := World.block_lt_of_cell? _ _ c1
    have l2 := World.block_lt_of_cell? _ _ k1
    exact ⟨(hBW.cell l1).trans c1, Nat.lt_of_lt_of_le l1 hBW.size, (hBW.cell l2).trans k1, (hBW.cell (World.block_lt_of_cell? _ _ k2)).trans k2, (hBW.cell (World.block_lt_of_cell? _ _ k3)).trans k3, (hBW.cell (World.block_lt_of_cell? _ _ k4)).trans k4⟩
  have hm3 : Blk w3 b 132 #[o, .string lab, .string val, .bool u.val.isSome, .slice (some ⟨g, 0, none⟩) 1 cap, .bool sh] := by
    have := HBm.out; rw [← HW.out] at this; exact this.stay hBW
  have hk3 : Blk w3 kc 132 #[o', .string lab', .string val', .bool k.val.isSome, .slice A' n' c', .bool sh'] := by
    have := HBk.out; rw [← HW.out] at this; exact this.stay hBW
  have f1 := hm3.frozen 1
  have hsum : lab.size + lab'.size ≤ 9223372036854775807 := by omega
  have hm4 := hm3.set_ 1 (.string (lab ++ lab'))
  have hk4 := hk3.far (p := ⟨b, 1, none⟩) hne (.string (lab ++ lab'))
  have H3 := Lib.hid hBW
  clear n1 n2 d1 hB2 hB3 hB4 hi c1 c3 c4 k1 k2 k3 k4 hg0 hBx hBW
  go_wp2_with fail
  refine wp_region_late (S := fun w' : World => w'.cell? ⟨b, 1, none⟩ = some (.string lab) ∧ w'.cell? ⟨kc, 1, none⟩ = some (.string lab')) (st := 11) (by kernel_rfl) ?_
  have hS : (fun w' : World => w'.cell? ⟨b, 1, none⟩ = some (.string lab) ∧ w'.cell? ⟨kc, 1, none⟩ = some (.string lab')) w3.drew := ⟨z1, y1⟩
  refine wpAnyL_take0 (i := 0) (oi := { dst := some 33, op := Go.Op.move (Go.Operand.tmp 1), type := 24, pos := "change.go:76", after := #[], guard := none }) (v := .pointer (some ⟨b, 0, none⟩)) rfl (by kernel_rfl) (by kernel_rfl) (by kernel_rfl) (by kernel_rfl) (fun _ _ _ h => h) hS (Or.inl ⟨by rfl, fun w hSw => ?_⟩) ?_
  · go_split_ands
    go_simp
  try simp only [Act.put, List.setIfInBounds_toArray, List.set_cons_zero, List.set_cons_succ]
  refine wpAnyL_take0 (i := 1) (oi := { dst := some 34, op := Go.Op.nilCheck (Go.Operand.tmp 33), type := 0, pos := "change.go:76", after := #[{ on := 0, ground := Go.Ground.data }], guard := none }) (v := .pointer (some ⟨b, 0, none⟩)) rfl (by kernel_rfl) (by kernel_rfl) (by kernel_rfl) (by kernel_rfl) (fun _ _ _ h => h) hS (Or.inl ⟨by rfl, fun w hSw => ?_⟩) ?_
  · go_split_ands
    go_simp
  try simp only [Act.put, List.setIfInBounds_toArray, List.set_cons_zero, List.set_cons_succ]
  refine wpAnyL_take0 (i := 2) (oi := { dst := some 35, op := Go.Op.fieldAddr 132 (Go.Operand.tmp 34) 1, type := 0, pos := "change.go:76", after := #[{ on := 1, ground := Go.Ground.data }], guard := none }) (v := .pointer (some ⟨b, 1, none⟩)) rfl (by kernel_rfl) (by kernel_rfl) (by kernel_rfl) (by kernel_rfl) (fun _ _ _ h => h) hS (Or.inl ⟨by rfl, fun w hSw => ?_⟩) ?_
  · go_split_ands
    go_simp
  try simp only [Act.put, List.setIfInBounds_toArray, List.set_cons_zero, List.set_cons_succ]
  refine wpAnyL_take (i := 3) (oi := { dst := some 36, op := Go.Op.load 9 (Go.Operand.tmp 35), type := 9, pos := "change.go:76", after := #[{ on := 2, ground := Go.Ground.data }], guard := none }) (v := .string lab) rfl (by kernel_rfl) (by kernel_rfl) (by kernel_rfl) (by kernel_rfl) (fun _ _ _ h => h) hS (Or.inl ⟨by rfl, fun w hSw => ?_⟩) ?_
  · go_split_ands
    go_simp
  try simp only [Act.put, List.setIfInBounds_toArray, List.set_cons_zero, List.set_cons_succ]
  refine wpAnyL_take0 (i := 4) (oi := { dst := some 37, op := Go.Op.move (Go.Operand.tmp 5), type := 24, pos := "change.go:76", after := #[], guard := none }) (v := .pointer (some ⟨kc, 0, none⟩)) rfl (by kernel_rfl) (by kernel_rfl) (by kernel_rfl) (by kernel_rfl) (fun _ _ _ h => h) hS (Or.inl ⟨by rfl, fun w hSw => ?_⟩) ?_
  · go_split_ands
    go_simp
  try simp only [Act.put, List.setIfInBounds_toArray, List.set_cons_zero, List.set_cons_succ]
  refine wpAnyL_take0 (i := 5) (oi := { dst := some 38, op := Go.Op.nilCheck (Go.Operand.tmp 37), type := 0, pos := "change.go:76", after := #[{ on := 4, ground := Go.Ground.data }], guard := none }) (v := .pointer (some ⟨kc, 0, none⟩)) rfl (by kernel_rfl) (by kernel_rfl) (by kernel_rfl) (by kernel_rfl) (fun _ _ _ h => h) hS (Or.inl ⟨by rfl, fun w hSw => ?_⟩) ?_
  · go_split_ands
    go_simp
  try simp only [Act.put, List.setIfInBounds_toArray, List.set_cons_zero, List.set_cons_succ]
  refine wpAnyL_take0 (i := 6) (oi := { dst := some 39, op := Go.Op.fieldAddr 132 (Go.Operand.tmp 38) 1, type := 0, pos := "change.go:76", after := #[{ on := 5, ground := Go.Ground.data }], guard := none }) (v := .pointer (some ⟨kc, 1, none⟩)) rfl (by kernel_rfl) (by kernel_rfl) (by kernel_rfl) (by kernel_rfl) (fun _ _ _ h => h) hS (Or.inl ⟨by rfl, fun w hSw => ?_⟩) ?_
  · go_split_ands
    go_simp
  try simp only [Act.put, List.setIfInBounds_toArray, List.set_cons_zero, List.set_cons_succ]
  refine wpAnyL_take (i := 7) (oi := { dst := some 40, op := Go.Op.load 9 (Go.Operand.tmp 39), type := 9, pos := "change.go:76", after := #[{ on := 6, ground := Go.Ground.data }], guard := none }) (v := .string lab') rfl (by kernel_rfl) (by kernel_rfl) (by kernel_rfl) (by kernel_rfl) (fun _ _ _ h => h) hS (Or.inl ⟨by rfl, fun w hSw => ?_⟩) ?_
  · go_split_ands
    go_simp
  try simp only [Act.put, List.setIfInBounds_toArray, List.set_cons_zero, List.set_cons_succ]
  refine wpAnyL_take0 (i := 8) (oi := { dst := some 41, op := Go.Op.binOp Go.BinOp.add 9 (Go.Operand.tmp 36) (Go.Operand.tmp 40) 9, type := 9, pos := "change.go:76", after := #[{ on := 3, ground := Go.Ground.data }, { on := 7, ground := Go.Ground.data }], guard := none }) (v := .string (lab ++ lab')) rfl (by kernel_rfl) (by kernel_rfl) (by kernel_rfl) (by kernel_rfl) (fun _ _ _ h => h) hS (Or.inl ⟨by rfl, fun w hSw => ?_⟩) ?_
  · go_split_ands
    go_simp
  try simp only [Act.put, List.setIfInBounds_toArray, List.set_cons_zero, List.set_cons_succ]
  refine wpAnyL_take0 (i := 9) (oi := { dst := some 42, op := Go.Op.nilCheck (Go.Operand.tmp 33), type := 0, pos := "change.go:76", after := #[{ on := 0, ground := Go.Ground.data }, { on := 0, ground := Go.Ground.phase }, { on := 1, ground := Go.Ground.phase }, { on := 2, ground := Go.Ground.phase }, { on := 3, ground := Go.Ground.phase }, { on := 4, ground := Go.Ground.phase }, { on := 5, ground := Go.Ground.phase }, { on := 6, ground := Go.Ground.phase }, { on := 7, ground := Go.Ground.phase }, { on := 8, ground := Go.Ground.phase }], guard := none }) (v := .pointer (some ⟨b, 0, none⟩)) rfl (by kernel_rfl) (by kernel_rfl) (by kernel_rfl) (by kernel_rfl) (fun _ _ _ h => h) hS (Or.inl ⟨by rfl, fun w hSw => ?_⟩) ?_
  · go_split_ands
    go_simp
  try simp only [Act.put, List.setIfInBounds_toArray, List.set_cons_zero, List.set_cons_succ]
  refine wpAnyL_take0 (i := 10) (oi := { dst := some 43, op := Go.Op.fieldAddr 132 (Go.Operand.tmp 42) 1, type := 0, pos := "change.go:76", after := #[{ on := 9, ground := Go.Ground.data }, { on := 0, ground := Go.Ground.phase }, { on := 1, ground := Go.Ground.phase }, { on := 2, ground := Go.Ground.phase }, { on := 3, ground := Go.Ground.phase }, { on := 4, ground := Go.Ground.phase }, { on := 5, ground := Go.Ground.phase }, { on := 6, ground := Go.Ground.phase }, { on := 7, ground := Go.Ground.phase }, { on := 8, ground := Go.Ground.phase }], guard := none }) (v := .pointer (some ⟨b, 1, none⟩)) rfl (by kernel_rfl) (by kernel_rfl) (by kernel_rfl) (by kernel_rfl) (fun _ _ _ h => h) hS (Or.inl ⟨by rfl, fun w hSw => ?_⟩) ?_
  · go_split_ands
    go_simp
  try simp only [Act.put, List.setIfInBounds_toArray, List.set_cons_zero, List.set_cons_succ]
  refine wpAnyL_ready (rs := [11]) (by kernel_rfl) (by simp) ?_
  refine AllReadyL.cons (o := { dst := none, op := Go.Op.store 9 (Go.Operand.tmp 43) (Go.Operand.tmp 41), type := 0, pos := "change.go:76", after := #[{ on := 10, ground := Go.Ground.data }, { on := 8, ground := Go.Ground.data }, { on := 0, ground := Go.Ground.phase }, { on := 1, ground := Go.Ground.phase }, { on := 2, ground := Go.Ground.phase }, { on := 3, ground := Go.Ground.phase }, { on := 4, ground := Go.Ground.phase }, { on := 5, ground := Go.Ground.phase }, { on := 6, ground := Go.Ground.phase }, { on := 7, ground := Go.Ground.phase }, { on := 8, ground := Go.Ground.phase }], guard := none }) rfl (fun K hK => ?_) AllReadyL.nil
  go_simp
  refine hK.out _ _ (late_no (by kernel_rfl)) ?_
  clear hK K
  try simp only [Act.put, List.setIfInBounds_toArray, List.set_cons_zero, List.set_cons_succ]
  refine wpAnyL_done (by kernel_rfl) ?_ _
  have hk5 : Keep [b] w3 (w3.setCell ⟨b, 1, none⟩ (.string (lab ++ lab'))).drew := ((Keep.refl [b] w3).setCell (p := ⟨b, 1, none⟩) (by simp) _).drew
  replace hm4 : Blk (w3.setCell ⟨b, 1, none⟩ (.string (lab ++ lab'))).drew b 132 _ := hm4
  replace hk4 : Blk (w3.setCell ⟨b, 1, none⟩ (.string (lab ++ lab'))).drew kc 132 _ := hk4
  obtain ⟨W4, hW4⟩ : ∃ W4, W4 = (w3.setCell ⟨b, 1, none⟩ (.string (lab ++ lab'))).drew := ⟨_, rfl⟩
  rw [← hW4] at hm4 hk4 hk5 ⊢
  have n4 : OwnK 0 W4 (.slice A' n' c') bs' := by
    have h0 := HK.out.row
    rw [← HW.out] at h0
    exact own_keep (h0.stay H3.out) hk5 (fun x hx e => by
      simp at hx; subst hx
      exact own_ne (h0.stay H3.out) (fun cur e => by unfold Blk at hm3; rw [hm3] at e; cases e) e)
  have HW4 := Lib.hid hW4
  have HK5 := Lib.hid hk5
  have HK4 := Lib.hid hk4
  have hm5 : Blk W4.drew b 132 _ := hm4
  have n5 : OwnK 0 W4.drew (.slice A' n' c') bs' := n4
  obtain ⟨⟨r0, r1, r2, r3, r4, r5⟩, -⟩ := six hk4
  clear hm3 hk3 f1 y1 y2 y3 y4 z1 hW4 hk5 hk4 hm4 n4 r0 r1 r5
  go_wp2_with fail
  refine wp_region_late (S := fun w' : World => w'.cell? ⟨kc, 2, none⟩ = some (.string val') ∧ w'.cell? ⟨kc, 3, none⟩ = some (.bool k.val.isSome) ∧ w'.cell? ⟨kc, 4, none⟩ = some (.slice A' n' c')) (st := 29) (by kernel_rfl) ?_
  have hS : (fun w' : World => w'.cell? ⟨kc, 2, none⟩ = some (.string val') ∧ w'.cell? ⟨kc, 3, none⟩ = some (.bool k.val.isSome) ∧ w'.cell? ⟨kc, 4, none⟩ = some (.slice A' n' c')) W4.drew := ⟨r2, r3, r4⟩
  refine wpAnyL_take0 (i := 0) (oi := { dst := some 44, op := Go.Op.move (Go.Operand.tmp 1), type := 24, pos := "change.go:77", after := #[], guard := none }) (v := .pointer (some ⟨b, 0, none⟩)) rfl (by kernel_rfl) (by kernel_rfl) (by kernel_rfl) (by kernel_rfl) (fun _ _ _ h => h) hS (Or.inl ⟨by rfl, fun w hSw => ?_⟩) ?_
  · go_split_ands
    go_simp
  try simp only [Act.put, List.setIfInBounds_toArray, List.set_cons_zero, List.set_cons_succ]
  refine wpAnyL_take0 (i := 1) (oi := { dst := some 45, op := Go.Op.move (Go.Operand.tmp 1), type := 24, pos := "change.go:77", after := #[{ on := 20, ground := Go.Ground.gcOnly Go.Departure.lateStores }], guard := none }) (v := .pointer (some ⟨b, 0, none⟩)) rfl (by kernel_rfl) (by kernel_rfl) (by kernel_rfl) (by kernel_rfl) (fun _ _ _ h => h) hS (Or.inl ⟨by rfl, fun w hSw => ?_⟩) ?_
  · go_split_ands
    go_simp
  try simp only [Act.put, List.setIfInBounds_toArray, List.set_cons_zero, List.set_cons_succ]
  refine wpAnyL_take0 (i := 2) (oi := { dst := some 46, op := Go.Op.move (Go.Operand.tmp 1), type := 24, pos := "change.go:77", after := #[{ on := 23, ground := Go.Ground.gcOnly Go.Departure.lateStores }], guard := none }) (v := .pointer (some ⟨b, 0, none⟩)) rfl (by kernel_rfl) (by kernel_rfl) (by kernel_rfl) (by kernel_rfl) (fun _ _ _ h => h) hS (Or.inl ⟨by rfl, fun w hSw => ?_⟩) ?_
  · go_split_ands
    go_simp
  try simp only [Act.put, List.setIfInBounds_toArray, List.set_cons_zero, List.set_cons_succ]
  refine wpAnyL_take0 (i := 3) (oi := { dst := some 47, op := Go.Op.move (Go.Operand.tmp 1), type := 24, pos := "change.go:77", after := #[{ on := 26, ground := Go.Ground.gcOnly Go.Departure.lateStores }], guard := none }) (v := .pointer (some ⟨b, 0, none⟩)) rfl (by kernel_rfl) (by kernel_rfl) (by kernel_rfl) (by kernel_rfl) (fun _ _ _ h => h) hS (Or.inl ⟨by rfl, fun w hSw => ?_⟩) ?_
  · go_split_ands
    go_simp
  try simp only [Act.put, List.setIfInBounds_toArray, List.set_cons_zero, List.set_cons_succ]
  refine wpAnyL_take0 (i := 4) (oi := { dst := some 48, op := Go.Op.move (Go.Operand.tmp 5), type := 24, pos := "change.go:77", after := #[], guard := none }) (v := .pointer (some ⟨kc, 0, none⟩)) rfl (by kernel_rfl) (by kernel_rfl) (by kernel_rfl) (by kernel_rfl) (fun _ _ _ h => h) hS (Or.inl ⟨by rfl, fun w hSw => ?_⟩) ?_
  · go_split_ands
    go_simp
  try simp only [Act.put, List.setIfInBounds_toArray, List.set_cons_zero, List.set_cons_succ]
  refine wpAnyL_take0 (i := 5) (oi := { dst := some 49, op := Go.Op.nilCheck (Go.Operand.tmp 48), type := 0, pos := "change.go:77", after := #[{ on := 4, ground := Go.Ground.data }], guard := none }) (v := .pointer (some ⟨kc, 0, none⟩)) rfl (by kernel_rfl) (by kernel_rfl) (by kernel_rfl) (by kernel_rfl) (fun _ _ _ h => h) hS (Or.inl ⟨by rfl, fun w hSw => ?_⟩) ?_
  · go_split_ands
    go_simp
  try simp only [Act.put, List.setIfInBounds_toArray, List.set_cons_zero, List.set_cons_succ]
  refine wpAnyL_take0 (i := 6) (oi := { dst := some 50, op := Go.Op.fieldAddr 132 (Go.Operand.tmp 49) 2, type := 0, pos := "change.go:77", after := #[{ on := 5, ground := Go.Ground.data }], guard := none }) (v := .pointer (some ⟨kc, 2, none⟩)) rfl (by kernel_rfl) (by kernel_rfl) (by kernel_rfl) (by kernel_rfl) (fun _ _ _ h => h) hS (Or.inl ⟨by rfl, fun w hSw => ?_⟩) ?_
  · go_split_ands
    go_simp
  try simp only [Act.put, List.setIfInBounds_toArray, List.set_cons_zero, List.set_cons_succ]
  refine wpAnyL_take (i := 7) (oi := { dst := some 51, op := Go.Op.load 9 (Go.Operand.tmp 50), type := 9, pos := "change.go:77", after := #[{ on := 6, ground := Go.Ground.data }], guard := none }) (v := .string val') rfl (by kernel_rfl) (by kernel_rfl) (by kernel_rfl) (by kernel_rfl) (fun _ _ _ h => h) hS (Or.inl ⟨by rfl, fun w hSw => ?_⟩) ?_
  · go_split_ands
    go_simp
  try simp only [Act.put, List.setIfInBounds_toArray, List.set_cons_zero, List.set_cons_succ]
  refine wpAnyL_take0 (i := 8) (oi := { dst := some 52, op := Go.Op.move (Go.Operand.tmp 5), type := 24, pos := "change.go:77", after := #[], guard := none }) (v := .pointer (some ⟨kc, 0, none⟩)) rfl (by kernel_rfl) (by kernel_rfl) (by kernel_rfl) (by kernel_rfl) (fun _ _ _ h => h) hS (Or.inl ⟨by rfl, fun w hSw => ?_⟩) ?_
  · go_split_ands
    go_simp
  try simp only [Act.put, List.setIfInBounds_toArray, List.set_cons_zero, List.set_cons_succ]
  refine wpAnyL_take0 (i := 9) (oi := { dst := some 53, op := Go.Op.nilCheck (Go.Operand.tmp 52), type := 0, pos := "change.go:77", after := #[{ on := 8, ground := Go.Ground.data }], guard := none }) (v := .pointer (some ⟨kc, 0, none⟩)) rfl (by kernel_rfl) (by kernel_rfl) (by kernel_rfl) (by kernel_rfl) (fun _ _ _ h => h) hS (Or.inl ⟨by rfl, fun w hSw => ?_⟩) ?_
  · go_split_ands
    go_simp
  try simp only [Act.put, List.setIfInBounds_toArray, List.set_cons_zero, List.set_cons_succ]
  refine wpAnyL_take0 (i := 10) (oi := { dst := some 54, op := Go.Op.fieldAddr 132 (Go.Operand.tmp 53) 3, type := 0, pos := "change.go:77", after := #[{ on := 9, ground := Go.Ground.data }], guard := none }) (v := .pointer (some ⟨kc, 3, none⟩)) rfl (by kernel_rfl) (by kernel_rfl) (by kernel_rfl) (by kernel_rfl) (fun _ _ _ h => h) hS (Or.inl ⟨by rfl, fun w hSw => ?_⟩) ?_
  · go_split_ands
    go_simp
  try simp only [Act.put, List.setIfInBounds_toArray, List.set_cons_zero, List.set_cons_succ]
  refine wpAnyL_take (i := 11) (oi := { dst := some 55, op := Go.Op.load 4 (Go.Operand.tmp 54), type := 4, pos := "change.go:77", after := #[{ on := 10, ground := Go.Ground.data }], guard := none }) (v := .bool k.val.isSome) rfl (by kernel_rfl) (by kernel_rfl) (by kernel_rfl) (by kernel_rfl) (fun _ _ _ h => h) hS (Or.inl ⟨by rfl, fun w hSw => ?_⟩) ?_
  · go_split_ands
    go_simp
  try simp only [Act.put, List.setIfInBounds_toArray, List.set_cons_zero, List.set_cons_succ]
  refine wpAnyL_take0 (i := 12) (oi := { dst := some 56, op := Go.Op.move (Go.Operand.tmp 5), type := 24, pos := "change.go:77", after := #[], guard := none }) (v := .pointer (some ⟨kc, 0, none⟩)) rfl (by kernel_rfl) (by kernel_rfl) (by kernel_rfl) (by kernel_rfl) (fun _ _ _ h => h) hS (Or.inl ⟨by rfl, fun w hSw => ?_⟩) ?_
  · go_split_ands
    go_simp
  try simp only [Act.put, List.setIfInBounds_toArray, List.set_cons_zero, List.set_cons_succ]
  refine wpAnyL_take0 (i := 13) (oi := { dst := some 57, op := Go.Op.nilCheck (Go.Operand.tmp 56), type := 0, pos := "change.go:77", after := #[{ on := 12, ground := Go.Ground.data }], guard := none }) (v := .pointer (some ⟨kc, 0, none⟩)) rfl (by kernel_rfl) (by kernel_rfl) (by kernel_rfl) (by kernel_rfl) (fun _ _ _ h => h) hS (Or.inl ⟨by rfl, fun w hSw => ?_⟩) ?_
  · go_split_ands
    go_simp
  try simp only [Act.put, List.setIfInBounds_toArray, List.set_cons_zero, List.set_cons_succ]
  refine wpAnyL_take0 (i := 14) (oi := { dst := some 58, op := Go.Op.fieldAddr 132 (Go.Operand.tmp 57) 4, type := 0, pos := "change.go:77", after := #[{ on := 13, ground := Go.Ground.data }], guard := none }) (v := .pointer (some ⟨kc, 4, none⟩)) rfl (by kernel_rfl) (by kernel_rfl) (by kernel_rfl) (by kernel_rfl) (fun _ _ _ h => h) hS (Or.inl ⟨by rfl, fun w hSw => ?_⟩) ?_
  · go_split_ands
    go_simp
  try simp only [Act.put, List.setIfInBounds_toArray, List.set_cons_zero, List.set_cons_succ]
  refine wpAnyL_take (i := 15) (oi := { dst := some 59, op := Go.Op.load 86 (Go.Operand.tmp 58), type := 86, pos := "change.go:77", after := #[{ on := 14, ground := Go.Ground.data }], guard := none }) (v := .slice A' n' c') rfl (by kernel_rfl) (by kernel_rfl) (by kernel_rfl) (by kernel_rfl) (fun _ _ _ h => h) hS (Or.inl ⟨by rfl, fun w hSw => ?_⟩) ?_
  · go_split_ands
    go_simp
  try simp only [Act.put, List.setIfInBounds_toArray, List.set_cons_zero, List.set_cons_succ]
  refine wpAnyL_take0 (i := 17) (oi := { dst := some 61, op := Go.Op.move (Go.Operand.tmp 6), type := 4, pos := "change.go:77", after := #[{ on := 26, ground := Go.Ground.gcOnly Go.Departure.lateStores }], guard := none }) (v := .bool false) rfl (by kernel_rfl) (by kernel_rfl) (by kernel_rfl) (by kernel_rfl) (fun _ _ _ h => h) hS (Or.inl ⟨by rfl, fun w hSw => ?_⟩) ?_
  · go_split_ands
    go_simp
  try simp only [Act.put, List.setIfInBounds_toArray, List.set_cons_zero, List.set_cons_succ]
  refine wpAnyL_ready (rs := [16]) (by kernel_rfl) (by simp) ?_
  refine AllReadyL.cons (o := { dst := some 60, op := Go.Op.call { callee := Go.Callee.value (Go.Operand.func 94), args := #[Go.Operand.tmp 59], argTypes := #[86] }, type := 86, pos := "change.go:77", after := #[{ on := 15, ground := Go.Ground.data }], guard := none }) rfl (fun K hK => ?_) AllReadyL.nil
  go_simp
  refine (clone_kids 0 (.slice A' n' c') bs' _ n5 (by omega)).mono ?_
  rintro e w5 ⟨v5, rfl, hO5, hB5⟩
  go_wp2_with fail
  have hSn : (fun w' : World => w'.cell? ⟨kc, 2, none⟩ = some (.string val') ∧ w'.cell? ⟨kc, 3, none⟩ = some (.bool k.val.isSome) ∧ w'.cell? ⟨kc, 4, none⟩ = some (.slice A' n' c')) _ := keep3 hS hB5
  refine hK.out _ _ (fun _ => hSn) ?_
  clear hK K hS
  try simp only [Act.put, List.setIfInBounds_toArray, List.set_cons_zero, List.set_cons_succ]
  have hS := hSn
  clear hSn
  obtain ⟨A5, n5', c5', rfl⟩ := hO5.form
  have hm6 := hm5.stay hB5
  obtain ⟨⟨z0, z1, z2, z3, z4', z5⟩, y0, y1, y2, y3, y4, y5⟩ := six hm6
  refine wpAnyL_take0 (i := 18) (oi := { dst := some 62, op := Go.Op.nilCheck (Go.Operand.tmp 44), type := 0, pos := "change.go:77", after := #[{ on := 0, ground := Go.Ground.data }, { on := 0, ground := Go.Ground.phase }, { on := 1, ground := Go.Ground.textOnly Go.Departure.lateStores }, { on := 2, ground := Go.Ground.textOnly Go.Departure.lateStores }, { on := 3, ground := Go.Ground.textOnly Go.Departure.lateStores }, { on := 4, ground := Go.Ground.phase }, { on := 5, ground := Go.Ground.phase }, { on := 6, ground := Go.Ground.phase }, { on := 7, ground := Go.Ground.phase }, { on := 8, ground := Go.Ground.textOnly Go.Departure.lateStores }, { on := 9, ground := Go.Ground.textOnly Go.Departure.lateStoresUnsure }, { on := 10, ground := Go.Ground.textOnly Go.Departure.lateStoresUnsure }, { on := 11, ground := Go.Ground.phase }, { on := 12, ground := Go.Ground.textOnly Go.Departure.lateStores }, { on := 13, ground := Go.Ground.textOnly Go.Departure.lateStoresUnsure }, { on := 14, ground := Go.Ground.textOnly Go.Departure.lateStoresUnsure }, { on := 15, ground := Go.Ground.phase }, { on := 16, ground := Go.Ground.phase }, { on := 17, ground := Go.Ground.textOnly Go.Departure.lateStores }], guard := none }) (v := .pointer (some ⟨b, 0, none⟩)) rfl (by kernel_rfl) (by kernel_rfl) (by kernel_rfl) (by kernel_rfl) (fun _ _ _ h => h) hS (Or.inl ⟨by rfl, fun w hSw => ?_⟩) ?_
  · go_split_ands
    go_simp
  try simp only [Act.put, List.setIfInBounds_toArray, List.set_cons_zero, List.set_cons_succ]
  refine wpAnyL_take0 (i := 19) (oi := { dst := some 63, op := Go.Op.fieldAddr 132 (Go.Operand.tmp 62) 2, type := 0, pos := "change.go:77", after := #[{ on := 18, ground := Go.Ground.data }, { on := 0, ground := Go.Ground.phase }, { on := 1, ground := Go.Ground.textOnly Go.Departure.lateStores }, { on := 2, ground := Go.Ground.textOnly Go.Departure.lateStores }, { on := 3, ground := Go.Ground.textOnly Go.Departure.lateStores }, { on := 4, ground := Go.Ground.phase }, { on := 5, ground := Go.Ground.phase }, { on := 6, ground := Go.Ground.phase }, { on := 7, ground := Go.Ground.phase }, { on := 8, ground := Go.Ground.textOnly Go.Departure.lateStores }, { on := 9, ground := Go.Ground.textOnly Go.Departure.lateStoresUnsure }, { on := 10, ground := Go.Ground.textOnly Go.Departure.lateStoresUnsure }, { on := 11, ground := Go.Ground.phase }, { on := 12, ground := Go.Ground.textOnly Go.Departure.lateStores }, { on := 13, ground := Go.Ground.textOnly Go.Departure.lateStoresUnsure }, { on := 14, ground := Go.Ground.textOnly Go.Departure.lateStoresUnsure }, { on := 15, ground := Go.Ground.phase }, { on := 16, ground := Go.Ground.phase }, { on := 17, ground := Go.Ground.textOnly Go.Departure.lateStores }], guard := none }) (v := .pointer (some ⟨b, 2, none⟩)) rfl (by kernel_rfl) (by kernel_rfl) (by kernel_rfl) (by kernel_rfl) (fun _ _ _ h => h) hS (Or.inl ⟨by rfl, fun w hSw => ?_⟩) ?_
  · go_split_ands
    go_simp
  try simp only [Act.put, List.setIfInBounds_toArray, List.set_cons_zero, List.set_cons_succ]
  refine wpAnyL_ready (rs := [20]) (by kernel_rfl) (by simp) ?_
  refine AllReadyL.cons (o := { dst := none, op := Go.Op.store 9 (Go.Operand.tmp 63) (Go.Operand.tmp 51), type := 0, pos := "change.go:77", after := #[{ on := 19, ground := Go.Ground.data }, { on := 7, ground := Go.Ground.data }, { on := 16, ground := Go.Ground.chain }, { on := 0, ground := Go.Ground.phase }, { on := 1, ground := Go.Ground.textOnly Go.Departure.lateStores }, { on := 2, ground := Go.Ground.textOnly Go.Departure.lateStores }, { on := 3, ground := Go.Ground.textOnly Go.Departure.lateStores }, { on := 4, ground := Go.Ground.phase }, { on := 5, ground := Go.Ground.phase }, { on := 6, ground := Go.Ground.phase }, { on := 7, ground := Go.Ground.phase }, { on := 8, ground := Go.Ground.textOnly Go.Departure.lateStores }, { on := 9, ground := Go.Ground.textOnly Go.Departure.lateStoresUnsure }, { on := 10, ground := Go.Ground.textOnly Go.Departure.lateStoresUnsure }, { on := 11, ground := Go.Ground.phase }, { on := 12, ground := Go.Ground.textOnly Go.Departure.lateStores }, { on := 13, ground := Go.Ground.textOnly Go.Departure.lateStoresUnsure }, { on := 14, ground := Go.Ground.textOnly Go.Departure.lateStoresUnsure }, { on := 15, ground := Go.Ground.phase }, { on := 16, ground := Go.Ground.phase }, { on := 17, ground := Go.Ground.textOnly Go.Departure.lateStores }], guard := none }) rfl (fun K hK => ?_) AllReadyL.nil
  go_simp
  have hSn : (fun w' : World => w'.cell? ⟨kc, 2, none⟩ = some (.string val') ∧ w'.cell? ⟨kc, 3, none⟩ = some (.bool k.val.isSome) ∧ w'.cell? ⟨kc, 4, none⟩ = some (.slice A' n' c')) _ := keep3s (i := 2) hS hne (.string val')
  refine hK.out _ _ (fun _ => hSn) ?_
  clear hK K hS
  try simp only [Act.put, List.setIfInBounds_toArray, List.set_cons_zero, List.set_cons_succ]
  have hS := hSn
  clear hSn
  refine wpAnyL_take0 (i := 21) (oi := { dst := some 64, op := Go.Op.nilCheck (Go.Operand.tmp 45), type := 0, pos := "change.go:77", after := #[{ on := 1, ground := Go.Ground.data }, { on := 0, ground := Go.Ground.phase }, { on := 1, ground := Go.Ground.phase }, { on := 2, ground := Go.Ground.textOnly Go.Departure.lateStores }, { on := 3, ground := Go.Ground.textOnly Go.Departure.lateStores }, { on := 4, ground := Go.Ground.phase }, { on := 5, ground := Go.Ground.phase }, { on := 6, ground := Go.Ground.phase }, { on := 7, ground := Go.Ground.phase }, { on := 8, ground := Go.Ground.phase }, { on := 9, ground := Go.Ground.phase }, { on := 10, ground := Go.Ground.phase }, { on := 11, ground := Go.Ground.phase }, { on := 12, ground := Go.Ground.textOnly Go.Departure.lateStores }, { on := 13, ground := Go.Ground.textOnly Go.Departure.lateStoresUnsure }, { on := 14, ground := Go.Ground.textOnly Go.Departure.lateStoresUnsure }, { on := 15, ground := Go.Ground.phase }, { on := 16, ground := Go.Ground.phase }, { on := 17, ground := Go.Ground.textOnly Go.Departure.lateStores }, { on := 18, ground := Go.Ground.phase }, { on := 19, ground := Go.Ground.phase }, { on := 20, ground := Go.Ground.phase }], guard := none }) (v := .pointer (some ⟨b, 0, none⟩)) rfl (by kernel_rfl) (by kernel_rfl) (by kernel_rfl) (by kernel_rfl) (fun _ _ _ h => h) hS (Or.inl ⟨by rfl, fun w hSw => ?_⟩) ?_
  · go_split_ands
    go_simp
  try simp only [Act.put, List.setIfInBounds_toArray, List.set_cons_zero, List.set_cons_succ]
  refine wpAnyL_take0 (i := 22) (oi := { dst := some 65, op := Go.Op.fieldAddr 132 (Go.Operand.tmp 64) 3, type := 0, pos := "change.go:77", after := #[{ on := 21, ground := Go.Ground.data }, { on := 0, ground := Go.Ground.phase }, { on := 1, ground := Go.Ground.phase }, { on := 2, ground := Go.Ground.textOnly Go.Departure.lateStores }, { on := 3, ground := Go.Ground.textOnly Go.Departure.lateStores }, { on := 4, ground := Go.Ground.phase }, { on := 5, ground := Go.Ground.phase }, { on := 6, ground := Go.Ground.phase }, { on := 7, ground := Go.Ground.phase }, { on := 8, ground := Go.Ground.phase }, { on := 9, ground := Go.Ground.phase }, { on := 10, ground := Go.Ground.phase }, { on := 11, ground := Go.Ground.phase }, { on := 12, ground := Go.Ground.textOnly Go.Departure.lateStores }, { on := 13, ground := Go.Ground.textOnly Go.Departure.lateStoresUnsure }, { on := 14, ground := Go.Ground.textOnly Go.Departure.lateStoresUnsure }, { on := 15, ground := Go.Ground.phase }, { on := 16, ground := Go.Ground.phase }, { on := 17, ground := Go.Ground.textOnly Go.Departure.lateStores }, { on := 18, ground := Go.Ground.phase }, { on := 19, ground := Go.Ground.phase }, { on := 20, ground := Go.Ground.phase }], guard := none }) (v := .pointer (some ⟨b, 3, none⟩)) rfl (by kernel_rfl) (by kernel_rfl) (by kernel_rfl) (by kernel_rfl) (fun _ _ _ h => h) hS (Or.inl ⟨by rfl, fun w hSw => ?_⟩) ?_
  · go_split_ands
    go_simp
  try simp only [Act.put, List.setIfInBounds_toArray, List.set_cons_zero, List.set_cons_succ]
  refine wpAnyL_ready (rs := [23]) (by kernel_rfl) (by simp) ?_
  refine AllReadyL.cons (o := { dst := none, op := Go.Op.store 4 (Go.Operand.tmp 65) (Go.Operand.tmp 55), type := 0, pos := "change.go:77", after := #[{ on := 22, ground := Go.Ground.data }, { on := 11, ground := Go.Ground.data }, { on := 20, ground := Go.Ground.chain }, { on := 0, ground := Go.Ground.phase }, { on := 1, ground := Go.Ground.phase }, { on := 2, ground := Go.Ground.textOnly Go.Departure.lateStores }, { on := 3, ground := Go.Ground.textOnly Go.Departure.lateStores }, { on := 4, ground := Go.Ground.phase }, { on := 5, ground := Go.Ground.phase }, { on := 6, ground := Go.Ground.phase }, { on := 7, ground := Go.Ground.phase }, { on := 8, ground := Go.Ground.phase }, { on := 9, ground := Go.Ground.phase }, { on := 10, ground := Go.Ground.phase }, { on := 11, ground := Go.Ground.phase }, { on := 12, ground := Go.Ground.textOnly Go.Departure.lateStores }, { on := 13, ground := Go.Ground.textOnly Go.Departure.lateStoresUnsure }, { on := 14, ground := Go.Ground.textOnly Go.Departure.lateStoresUnsure }, { on := 15, ground := Go.Ground.phase }, { on := 16, ground := Go.Ground.phase }, { on := 17, ground := Go.Ground.textOnly Go.Departure.lateStores }, { on := 18, ground := Go.Ground.phase }, { on := 19, ground := Go.Ground.phase }, { on := 20, ground := Go.Ground.phase }], guard := none }) rfl (fun K hK => ?_) AllReadyL.nil
  go_simp
  have hSn : (fun w' : World => w'.cell? ⟨kc, 2, none⟩ = some (.string val') ∧ w'.cell? ⟨kc, 3, none⟩ = some (.bool k.val.isSome) ∧ w'.cell? ⟨kc, 4, none⟩ = some (.slice A' n' c')) _ := keep3s (i := 3) hS hne (.bool k.val.isSome)
  refine hK.out _ _ (fun _ => hSn) ?_
  clear hK K hS
  try simp only [Act.put, List.setIfInBounds_toArray, List.set_cons_zero, List.set_cons_succ]
  have hS := hSn
  clear hSn
  refine wpAnyL_take0 (i := 24) (oi := { dst := some 66, op := Go.Op.nilCheck (Go.Operand.tmp 46), type := 0, pos := "change.go:77", after := #[{ on := 2, ground := Go.Ground.data }, { on := 0, ground := Go.Ground.phase }, { on := 1, ground := Go.Ground.phase }, { on := 2, ground := Go.Ground.phase }, { on := 3, ground := Go.Ground.textOnly Go.Departure.lateStores }, { on := 4, ground := Go.Ground.phase }, { on := 5, ground := Go.Ground.phase }, { on := 6, ground := Go.Ground.phase }, { on := 7, ground := Go.Ground.phase }, { on := 8, ground := Go.Ground.phase }, { on := 9, ground := Go.Ground.phase }, { on := 10, ground := Go.Ground.phase }, { on := 11, ground := Go.Ground.phase }, { on := 12, ground := Go.Ground.phase }, { on := 13, ground := Go.Ground.phase }, { on := 14, ground := Go.Ground.phase }, { on := 15, ground := Go.Ground.phase }, { on := 16, ground := Go.Ground.phase }, { on := 17, ground := Go.Ground.textOnly Go.Departure.lateStores }, { on := 18, ground := Go.Ground.phase }, { on := 19, ground := Go.Ground.phase }, { on := 20, ground := Go.Ground.phase }, { on := 21, ground := Go.Ground.phase }, { on := 22, ground := Go.Ground.phase }, { on := 23, ground := Go.Ground.phase }], guard := none }) (v := .pointer (some ⟨b, 0, none⟩)) rfl (by kernel_rfl) (by kernel_rfl) (by kernel_rfl) (by kernel_rfl) (fun _ _ _ h => h) hS (Or.inl ⟨by rfl, fun w hSw => ?_⟩) ?_
  · go_split_ands
    go_simp
  try simp only [Act.put, List.setIfInBounds_toArray, List.set_cons_zero, List.set_cons_succ]
  refine wpAnyL_take0 (i := 25) (oi := { dst := some 67, op := Go.Op.fieldAddr 132 (Go.Operand.tmp 66) 4, type := 0, pos := "change.go:77", after := #[{ on := 24, ground := Go.Ground.data }, { on := 0, ground := Go.Ground.phase }, { on := 1, ground := Go.Ground.phase }, { on := 2, ground := Go.Ground.phase }, { on := 3, ground := Go.Ground.textOnly Go.Departure.lateStores }, { on := 4, ground := Go.Ground.phase }, { on := 5, ground := Go.Ground.phase }, { on := 6, ground := Go.Ground.phase }, { on := 7, ground := Go.Ground.phase }, { on := 8, ground := Go.Ground.phase }, { on := 9, ground := Go.Ground.phase }, { on := 10, ground := Go.Ground.phase }, { on := 11, ground := Go.Ground.phase }, { on := 12, ground := Go.Ground.phase }, { on := 13, ground := Go.Ground.phase }, { on := 14, ground := Go.Ground.phase }, { on := 15, ground := Go.Ground.phase }, { on := 16, ground := Go.Ground.phase }, { on := 17, ground := Go.Ground.textOnly Go.Departure.lateStores }, { on := 18, ground := Go.Ground.phase }, { on := 19, ground := Go.Ground.phase }, { on := 20, ground := Go.Ground.phase }, { on := 21, ground := Go.Ground.phase }, { on := 22, ground := Go.Ground.phase }, { on := 23, ground := Go.Ground.phase }], guard := none }) (v := .pointer (some ⟨b, 4, none⟩)) rfl (by kernel_rfl) (by kernel_rfl) (by kernel_rfl) (by kernel_rfl) (fun _ _ _ h => h) hS (Or.inl ⟨by rfl, fun w hSw => ?_⟩) ?_
  · go_split_ands
    go_simp
  try simp only [Act.put, List.setIfInBounds_toArray, List.set_cons_zero, List.set_cons_succ]
  refine wpAnyL_ready (rs := [26]) (by kernel_rfl) (by simp) ?_
  refine AllReadyL.cons (o := { dst := none, op := Go.Op.store 86 (Go.Operand.tmp 67) (Go.Operand.tmp 60), type := 0, pos := "change.go:77", after := #[{ on := 25, ground := Go.Ground.data }, { on := 16, ground := Go.Ground.data }, { on := 23, ground := Go.Ground.chain }, { on := 0, ground := Go.Ground.phase }, { on := 1, ground := Go.Ground.phase }, { on := 2, ground := Go.Ground.phase }, { on := 3, ground := Go.Ground.textOnly Go.Departure.lateStores }, { on := 4, ground := Go.Ground.phase }, { on := 5, ground := Go.Ground.phase }, { on := 6, ground := Go.Ground.phase }, { on := 7, ground := Go.Ground.phase }, { on := 8, ground := Go.Ground.phase }, { on := 9, ground := Go.Ground.phase }, { on := 10, ground := Go.Ground.phase }, { on := 11, ground := Go.Ground.phase }, { on := 12, ground := Go.Ground.phase }, { on := 13, ground := Go.Ground.phase }, { on := 14, ground := Go.Ground.phase }, { on := 15, ground := Go.Ground.phase }, { on := 16, ground := Go.Ground.phase }, { on := 17, ground := Go.Ground.textOnly Go.Departure.lateStores }, { on := 18, ground := Go.Ground.phase }, { on := 19, ground := Go.Ground.phase }, { on := 20, ground := Go.Ground.phase }, { on := 21, ground := Go.Ground.phase }, { on := 22, ground := Go.Ground.phase }, { on := 23, ground := Go.Ground.phase }], guard := none }) rfl (fun K hK => ?_) AllReadyL.nil
  go_simp
  have hSn : (fun w' : World => w'.cell? ⟨kc, 2, none⟩ = some (.string val') ∧ w'.cell? ⟨kc, 3, none⟩ = some (.bool k.val.isSome) ∧ w'.cell? ⟨kc, 4, none⟩ = some (.slice A' n' c')) _ := keep3s (i := 4) hS hne (.slice A5 n5' c5')
  refine hK.out _ _ (fun _ => hSn) ?_
  clear hK K hS
  try simp only [Act.put, List.setIfInBounds_toArray, List.set_cons_zero, List.set_cons_succ]
  have hS := hSn
  clear hSn
  refine wpAnyL_take0 (i := 27) (oi := { dst := some 68, op := Go.Op.nilCheck (Go.Operand.tmp 47), type := 0, pos := "change.go:77", after := #[{ on := 3, ground := Go.Ground.data }, { on := 0, ground := Go.Ground.phase }, { on := 1, ground := Go.Ground.phase }, { on := 2, ground := Go.Ground.phase }, { on := 3, ground := Go.Ground.phase }, { on := 4, ground := Go.Ground.phase }, { on := 5, ground := Go.Ground.phase }, { on := 6, ground := Go.Ground.phase }, { on := 7, ground := Go.Ground.phase }, { on := 8, ground := Go.Ground.phase }, { on := 9, ground := Go.Ground.phase }, { on := 10, ground := Go.Ground.phase }, { on := 11, ground := Go.Ground.phase }, { on := 12, ground := Go.Ground.phase }, { on := 13, ground := Go.Ground.phase }, { on := 14, ground := Go.Ground.phase }, { on := 15, ground := Go.Ground.phase }, { on := 16, ground := Go.Ground.phase }, { on := 17, ground := Go.Ground.phase }, { on := 18, ground := Go.Ground.phase }, { on := 19, ground := Go.Ground.phase }, { on := 20, ground := Go.Ground.phase }, { on := 21, ground := Go.Ground.phase }, { on := 22, ground := Go.Ground.phase }, { on := 23, ground := Go.Ground.phase }, { on := 24, ground := Go.Ground.phase }, { on := 25, ground := Go.Ground.phase }, { on := 26, ground := Go.Ground.phase }], guard := none }) (v := .pointer (some ⟨b, 0, none⟩)) rfl (by kernel_rfl) (by kernel_rfl) (by kernel_rfl) (by kernel_rfl) (fun _ _ _ h => h) hS (Or.inl ⟨by rfl, fun w hSw => ?_⟩) ?_
  · go_split_ands
    go_simp
  try simp only [Act.put, List.setIfInBounds_toArray, List.set_cons_zero, List.set_cons_succ]
  refine wpAnyL_take0 (i := 28) (oi := { dst := some 69, op := Go.Op.fieldAddr 132 (Go.Operand.tmp 68) 5, type := 0, pos := "change.go:77", after := #[{ on := 27, ground := Go.Ground.data }, { on := 0, ground := Go.Ground.phase }, { on := 1, ground := Go.Ground.phase }, { on := 2, ground := Go.Ground.phase }, { on := 3, ground := Go.Ground.phase }, { on := 4, ground := Go.Ground.phase }, { on := 5, ground := Go.Ground.phase }, { on := 6, ground := Go.Ground.phase }, { on := 7, ground := Go.Ground.phase }, { on := 8, ground := Go.Ground.phase }, { on := 9, ground := Go.Ground.phase }, { on := 10, ground := Go.Ground.phase }, { on := 11, ground := Go.Ground.phase }, { on := 12, ground := Go.Ground.phase }, { on := 13, ground := Go.Ground.phase }, { on := 14, ground := Go.Ground.phase }, { on := 15, ground := Go.Ground.phase }, { on := 16, ground := Go.Ground.phase }, { on := 17, ground := Go.Ground.phase }, { on := 18, ground := Go.Ground.phase }, { on := 19, ground := Go.Ground.phase }, { on := 20, ground := Go.Ground.phase }, { on := 21, ground := Go.Ground.phase }, { on := 22, ground := Go.Ground.phase }, { on := 23, ground := Go.Ground.phase }, { on := 24, ground := Go.Ground.phase }, { on := 25, ground := Go.Ground.phase }, { on := 26, ground := Go.Ground.phase }], guard := none }) (v := .pointer (some ⟨b, 5, none⟩)) rfl (by kernel_rfl) (by kernel_rfl) (by kernel_rfl) (by kernel_rfl) (fun _ _ _ h => h) hS (Or.inl ⟨by rfl, fun w hSw => ?_⟩) ?_
  · go_split_ands
    go_simp
  try simp only [Act.put, List.setIfInBounds_toArray, List.set_cons_zero, List.set_cons_succ]
  refine wpAnyL_ready (rs := [29]) (by kernel_rfl) (by simp) ?_
  refine AllReadyL.cons (o := { dst := none, op := Go.Op.store 4 (Go.Operand.tmp 69) (Go.Operand.tmp 61), type := 0, pos := "change.go:77", after := #[{ on := 28, ground := Go.Ground.data }, { on := 17, ground := Go.Ground.data }, { on := 26, ground := Go.Ground.chain }, { on := 0, ground := Go.Ground.phase }, { on := 1, ground := Go.Ground.phase }, { on := 2, ground := Go.Ground.phase }, { on := 3, ground := Go.Ground.phase }, { on := 4, ground := Go.Ground.phase }, { on := 5, ground := Go.Ground.phase }, { on := 6, ground := Go.Ground.phase }, { on := 7, ground := Go.Ground.phase }, { on := 8, ground := Go.Ground.phase }, { on := 9, ground := Go.Ground.phase }, { on := 10, ground := Go.Ground.phase }, { on := 11, ground := Go.Ground.phase }, { on := 12, ground := Go.Ground.phase }, { on := 13, ground := Go.Ground.phase }, { on := 14, ground := Go.Ground.phase }, { on := 15, ground := Go.Ground.phase }, { on := 16, ground := Go.Ground.phase }, { on := 17, ground := Go.Ground.phase }, { on := 18, ground := Go.Ground.phase }, { on := 19, ground := Go.Ground.phase }, { on := 20, ground := Go.Ground.phase }, { on := 21, ground := Go.Ground.phase }, { on := 22, ground := Go.Ground.phase }, { on := 23, ground := Go.Ground.phase }, { on := 24, ground := Go.Ground.phase }, { on := 25, ground := Go.Ground.phase }, { on := 26, ground := Go.Ground.phase }], guard := none }) rfl (fun K hK => ?_) AllReadyL.nil
  go_simp
  refine hK.out _ _ (late_no (by kernel_rfl)) ?_
  clear hK K
  try simp only [Act.put, List.setIfInBounds_toArray, List.set_cons_zero, List.set_cons_succ]
  refine wpAnyL_done (by kernel_rfl) ?_ _
  clear z0 z1 z2 z3 z4' z5 y0 y1 y2 y3 y4 y5 r2 r3 r4
  have hWb : b < W.heap.size := hbl
  have hBd : Below W4.heap.size W4 w5 := (Below.refl _ W4).drew.trans hB5
  have hsz5 : W4.heap.size ≤ w5.heap.size := hBd.size
  have h34 : w3.heap.size ≤ W4.heap.size := HK5.out.all.size
  have hA5ge := fun y hy => own_ge hO5 y hy
  have hA5b : (Value.slice A5 n5' c5').ownBlock ≠ some b := fun e => by
    have h1 : W4.drew.heap.size ≤ b := hA5ge b e
    have h2 : W4.drew.heap.size = W4.heap.size := rfl
    omega
  have hm9 := (((hm6.set_ 2 (.string val')).set_ 3 (.bool k.val.isSome)).set_ 4 (.slice A5 n5' c5')).set_ 5 (.bool false)
  have hO9 := ownsRow_setCell_other (ownsRow_setCell_other (ownsRow_setCell_other (ownsRow_setCell_other hO5 (a := ⟨b, 2, none⟩) hA5b (.string val')) (a := ⟨b, 3, none⟩) hA5b (.bool k.val.isSome)) (a := ⟨b, 4, none⟩) hA5b (.slice A5 n5' c5')) (a := ⟨b, 5, none⟩) hA5b (.bool false)
  have hk9 : Keep [b] w5 ((((w5.setCell ⟨b, 2, none⟩ (.string val')).setCell ⟨b, 3, none⟩ (.bool k.val.isSome)).setCell ⟨b, 4, none⟩ (.slice A5 n5' c5')).setCell ⟨b, 5, none⟩ (.bool false)) := ((((Keep.refl [b] w5).setCell (p := ⟨b, 2, none⟩) (by simp) _).setCell (p := ⟨b, 3, none⟩) (by simp) _).setCell (p := ⟨b, 4, none⟩) (by simp) _).setCell (p := ⟨b, 5, none⟩) (by simp) _
  clear hO5 hm6 hm5 n5
  go_wp2_with fail
  go_ret
  generalize (((w5.setCell ⟨b, 2, none⟩ (.string val')).setCell ⟨b, 3, none⟩ (.bool k.val.isSome)).setCell ⟨b, 4, none⟩ (.slice A5 n5' c5')).setCell ⟨b, 5, none⟩ (.bool false) = W9 at *
  have hbW4 : base ≤ W4.heap.size := by have := HB1.out.size; rw [← HW.out] at this; have := H3.out.size; omega
  refine ⟨rfl, ?_, ?_⟩
  · rw [HJ.out]
    refine ⟨.slice A5 n5' c5', bs', ⟨⟨o, lab ++ lab', val', false, hm9, ?_, HE2'.out⟩, OwnK.base hO9 hbW4, HLK.out⟩, hbb, fun i c k' hc hk' => ?_⟩
    · show (lab ++ lab').data.toList = u.lab ++ k.lab
      rw [ByteArray.data_append, Array.toList_append, HE1.out, HE1'.out]
    · have hr := HKK.out i c k' hc hk'
      rw [← HW.out] at hr
      have hr2 := ((((hr.stay H3.out).keep HK5.out (fun y hy hm => by simp at hm; exact hy.1.2.1 hm)).stay hBd).keep hk9 (fun y hy hm => by simp at hm; exact hy.1.2.1 hm))
      refine hr2.mono fun y hy _ => ⟨hy.1.1, hy.1.2.1, fun e => ?_⟩
      have h1 : W4.drew.heap.size ≤ y := hA5ge y e
      have h2 : W4.drew.heap.size = W4.heap.size := rfl
      have := hy.2
      have := H3.out.size
      omega
  · have e1 : Below base w W := by rw [HW.out]; exact HB1.out.mono hb
    exact (((e1.trans (H3.out.mono (by have := e1.size; omega))).trans (keep_below HK5.out hbb (by have := e1.size; have := H3.out.size; omega))).trans (hBd.mono hbW4)).trans (keep_below hk9 hbb (by omega))
end Go.Proofs.Ytimhdegdmdilaaa
/- Drop, one node down: plain mathematics. -/
namespace Go.Proofs.Ytimhdegdmdilaaa
open Go.RowKit Go.Lib
set_option linter.unusedVariables false
set_option maxRecDepth 100000
set_option linter.unnecessarySimpa false
set_option linter.unusedSimpArgs false
set_option linter.unnecessarySimpa false
set_option maxRecDepth 100000
section
variable {l : List UInt8} {v : Option ByteArray} {ks : List RX} {b : UInt8} {s : List UInt8} {w : ByteArray} {n : Nat}
theorem pos_mem (hr : ks.Pairwise (fun a b => fst? a < fst? b)) {k : RX} (hk : k ∈ ks) (hf : fst? k = n) : isR ks n = true ∧ rat ks (posR ks n) = k := by
  obtain ⟨j, hj, e⟩ := List.mem_iff_getElem.1 hk
  have hjr : rat ks j = k := by
    have := rat_get hj
    rw [List.getElem?_eq_getElem hj, e] at this
    exact (Option.some.inj this).symm
  have h1 : posR ks n ≤ j := by
    rcases Nat.lt_or_ge j (posR ks n) with h | h
    · have := posR_lt ks n j h; rw [hjr] at this; omega
    · exact h
  have h2 : posR ks n = j := by
    rcases Nat.lt_or_eq_of_le h1 with h | h
    · have h0 := posR_not ks n (by omega)
      have h3 := List.pairwise_iff_getElem.1 hr _ _ (by omega) hj h
      have g1 := rat_get (ks := ks) (j := posR ks n) (by omega)
      rw [List.getElem?_eq_getElem (by omega)] at g1
      rw [Option.some.inj g1, e] at h3
      omega
    · exact h
  unfold isR
  rw [h2, hjr]
  simp [hj, hf]
theorem joinR_or {u : RX} : joinR u = u ∨ (u.val = none ∧ ∃ c, u.kids = [c] ∧ joinR u = .node (u.lab ++ c.lab) c.val c.kids) := by
  unfold joinR
  split
  · rename_i c h1 h2; exact .inr ⟨h1, c, h2, rfl⟩
  · exact .inl rfl
theorem joinR_kd {u : RX} (h : Kd u) : joinR u = u := by
  unfold joinR
  split
  · rename_i c h1 h2
    rcases h.2 with h | h
    · rw [h1] at h; cases h
    · rw [h2] at h; simp at h
  · rfl
theorem step_gone (hc : Can (.node l v ks)) {k : RX} {Q : Nat} (hQ : Q < ks.length) (hk : rat ks Q = k) (hl : k.lab = b :: s) (h0 : k.kids = []) : Can (.node l v (ks.eraseIdx Q)) ∧ DelX k.lab (.node l v ks) (.node l v (ks.eraseIdx Q)) := by
  have hs := set_split hQ
  rw [hk] at hs
  have hc' : Can (.node l v (ks.take Q ++ k :: ks.drop (Q + 1))) := by rw [← hs]; exact hc
  have hd := del_gone (l := l) (v := v) (hc'.others hl) hl h0
  rw [← hs] at hd
  rw [List.eraseIdx_eq_take_drop_succ]
  exact ⟨hc'.del, hd⟩
theorem step_drop {k u : RX} {r : List UInt8} {Q : Nat} (hc : Can (.node l v ks)) (hQ : Q < ks.length) (hk : rat ks Q = k) (hl : k.lab = b :: s) (h1 : 1 ≤ k.kids.length) (hu : Can u) (hlu : u.lab = k.lab) (hx : DelX r k u) :
    Can (.node l v (ks.set Q (joinR u))) ∧ DelX (k.lab ++ r) (.node l v ks) (.node l v (ks.set Q (joinR u))) := by
  have hs := set_split hQ
  have hm := rat_mem hQ
  rw [hk] at hs hm
  rw [set_at hQ]
  have hc' : Can (.node l v (ks.take Q ++ k :: ks.drop (Q + 1))) := by rw [← hs]; exact hc
  have hd := del_down (l := l) (v := v) (u := u) (hc'.others hl) hl hlu hx
  rw [← hs] at hd
  have hfu : fst? u = fst? k := fst_lab hlu
  rcases del_kd (hc.kids _ hm) (hc.kd _ hm) h1 hu hlu hx with hkd | ⟨hv, c, hcs⟩
  · rw [joinR_kd hkd]
    exact ⟨hc'.swap hu hkd hfu, hd⟩
  · have hj : joinR u = .node (u.lab ++ c.lab) c.val c.kids := by unfold joinR; rw [hv, hcs]
    rw [hj]
    have hcm : c ∈ u.kids := by rw [hcs]; simp
    refine ⟨hc'.swap (join_can _ (hu.kids c hcm)) (join_kd _ (hu.kd c hcm)) ?_, fun x => ?_⟩
    · have hjl : (RX.node (u.lab ++ c.lab) c.val c.kids).lab = b :: (s ++ c.lab) := by
        show u.lab ++ c.lab = _
        rw [hlu, hl]; rfl
      rw [fst_cons hjl, fst_cons hl]
    · rw [join_mem hv hcs x]
      exact hd x
end
end Go.Proofs.Ytimhdegdmdilaaa
