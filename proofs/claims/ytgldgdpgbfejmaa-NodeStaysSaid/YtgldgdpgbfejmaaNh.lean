/- The slots of a node in memory: setting a chunk. -/
import Derived.Test.YtgldgdpgbfejmaaNg
namespace Go.Proofs.Ytgldgdpgbfejmaa
open Go.RowKit Go.Lib
set_option linter.unusedVariables false
set_option linter.unusedSimpArgs false
attribute [local irreducible] cnt
/-- a list with a chunk's element -/
def setL {α : Type} (d i : Nat) (x : α) (l : List α) : List α := putAt l (cnt i d) (d.testBit i) x
theorem late_no {b : Bool} {p : Prop} (h : b = true) : b = false → p := fun e => by rw [h] at e; cases e

set_option maxRecDepth 100000 in
set_option maxHeartbeats 8000000 in
theorem setPair_any (base b i : Nat) (p : Pr) (o : Value) (bk : Bool) (d nn : Nat) (pv kv : Value) (xs : List Pr) (ks : List Nat) (w : World) (h : NdV base w b o bk d nn pv kv xs ks) (hd : d < 4294967296) (hnn : nn < 4294967296) (hi : i < 32)
    (hr1 : d.testBit i = true → cnt i d < xs.length) (hr2 : nn.testBit i = true → cnt i nn < ks.length) (hle : cnt i d ≤ xs.length) (hn1 : xs.length ≤ 800) (hn2 : ks.length ≤ 800) (hbase : base ≤ w.heap.size) :
    Calls Try.prog 56 #[.pointer (some ⟨b, 2, none⟩), .int .i64 i, p.v] w (SlotPost base b o bk (d ||| onl (i : Int)) (clrB nn i) (setL d i p xs) (clrL nn i ks) pv kv w) := by
  have HR1 := Lib.hid hr1
  have HR2 := Lib.hid hr2
  clear hr1 hr2
  have hbx := Blk.new w 27 #[.string p.1, .string p.2]
  have hA := h.below ((Below.refl _ w).alloc (Nat.le_refl _) (.cells #[.string p.1, .string p.2] 27))
  have hmA := (Moves.refl b pv kv w).alloc (.cells #[.string p.1, .string p.2] 27)
  have hpl := h.blk.lt
  have hplp := fun k hk => (World.ownsRow.lt h.prs k hk).2
  have hplk := fun k hk => (World.ownsRow.lt h.kds k hk).2
  have hsA : w.heap.size < (w.alloc (.cells #[.string p.1, .string p.2] 27)).heap.size := by simp
  unfold Pr.v
  go_enter Try.func56, Try.ntmps56
  go_upto_region 1 with (fail)
  generalize w.alloc (.cells #[.string p.1, .string p.2] 27) = WA at *
  obtain ⟨x, hx⟩ : ∃ x, x = w.heap.size := ⟨_, rfl⟩
  rw [← hx] at hbx hsA ⊢
  have hxf : x ∉ foot b pv kv := fun hm => by
    simp only [foot, List.mem_cons, List.mem_append, Option.mem_toList] at hm
    rcases hm with e | e | e
    · omega
    · have := hplp _ e; omega
    · have := hplk _ e; omega
  have hsz : w.heap.size ≤ WA.heap.size := by omega
  clear hx hplp hplk hpl
  go_wp2_with fail
  refine (clearKid_any base b i o bk d nn pv kv xs ks WA hA hnn hi HR2.out (by omega)).mono ?_
  rintro e w1 ⟨rfl, pv1, kv1, h1, hm1⟩
  have hbx1 := hbx.keep hm1.2.2 hxf
  have hxf1 : pv1.ownBlock ≠ some x := fun e => by
    rcases hm1.1 x e with e' | e'
    · exact hxf (by simp [foot, e'])
    · omega
  have hmB := hmA.trans hm1
  have hsb : base ≤ w1.heap.size := Nat.le_trans hbase hmB.2.2.all.size
  generalize (clrB nn i) = nn1 at *
  generalize (clrL nn i ks) = ks1 at *
  clear hA hmA hm1 hbx hxf h
  have hS : (fun w' : World => w'.cell? ⟨b, 4, none⟩ = some pv1 ∧ w'.cell? ⟨b, 2, none⟩ = some (.int .u32 d) ∧ w'.cell? ⟨x, 0, none⟩ = some (.string p.1) ∧ w'.cell? ⟨x, 1, none⟩ = some (.string p.2)) w1.drew := ⟨h1.blk.cell 4, h1.blk.cell 2, hbx1.cell 0, hbx1.cell 1⟩
  have h1d : NdV base w1.drew b o bk d nn1 pv1 kv1 xs ks1 := h1.drewN 1
  have hmd : Moves b pv kv pv1 kv1 w w1.drew := hmB.drewN 1
  have hbxd : Blk w1.drew x 27 #[.string p.1, .string p.2] := hbx1
  have hsbd : base ≤ w1.drew.heap.size := hsb
  obtain ⟨r, hrr0⟩ : ∃ r, r = cnt i d := ⟨_, rfl⟩
  obtain ⟨tb, htb0⟩ : ∃ tb, tb = d.testBit i := ⟨_, rfl⟩
  have hrr := Lib.hid hrr0
  have htb := Lib.hid htb0
  clear hrr0 htb0
  clear h1 hmB hsb hbx1
  go_wp2_with fail
  refine wp_region_late (S := fun w' => w'.cell? ⟨b, 4, none⟩ = some pv1 ∧ w'.cell? ⟨b, 2, none⟩ = some (.int .u32 d) ∧ w'.cell? ⟨x, 0, none⟩ = some (.string p.1) ∧ w'.cell? ⟨x, 1, none⟩ = some (.string p.2)) (st := 21) (by kernel_rfl) ?_
  generalize w1.drew = W at *
  refine wpAnyL_take0 (i := 0) (oi := { dst := some 9, op := Go.Op.move (Go.Operand.tmp 0), type := 117, pos := "slots.go:27", after := #[], guard := none }) (v := .pointer (some ⟨b, 2, none⟩)) rfl (by kernel_rfl) (by kernel_rfl) (by kernel_rfl) (by kernel_rfl) (fun _ _ _ h => h) hS (Or.inl ⟨by rfl, fun w hSw => ?_⟩) ?_
  · go_split_ands
    go_simp
  try simp only [Act.put, List.setIfInBounds_toArray, List.set_cons_zero, List.set_cons_succ]
  refine wpAnyL_take0 (i := 1) (oi := { dst := some 10, op := Go.Op.move (Go.Operand.tmp 0), type := 117, pos := "slots.go:27", after := #[], guard := none }) (v := .pointer (some ⟨b, 2, none⟩)) rfl (by kernel_rfl) (by kernel_rfl) (by kernel_rfl) (by kernel_rfl) (fun _ _ _ h => h) hS (Or.inl ⟨by rfl, fun w hSw => ?_⟩) ?_
  · go_split_ands
    go_simp
  try simp only [Act.put, List.setIfInBounds_toArray, List.set_cons_zero, List.set_cons_succ]
  refine wpAnyL_take0 (i := 2) (oi := { dst := some 11, op := Go.Op.nilCheck (Go.Operand.tmp 10), type := 0, pos := "slots.go:27", after := #[{ on := 1, ground := Go.Ground.data }], guard := none }) (v := .pointer (some ⟨b, 2, none⟩)) rfl (by kernel_rfl) (by kernel_rfl) (by kernel_rfl) (by kernel_rfl) (fun _ _ _ h => h) hS (Or.inl ⟨by rfl, fun w hSw => ?_⟩) ?_
  · go_split_ands
    go_simp
  try simp only [Act.put, List.setIfInBounds_toArray, List.set_cons_zero, List.set_cons_succ]
  refine wpAnyL_take0 (i := 3) (oi := { dst := some 12, op := Go.Op.fieldAddr 96 (Go.Operand.tmp 11) 2, type := 0, pos := "slots.go:27", after := #[{ on := 2, ground := Go.Ground.data }], guard := none }) (v := .pointer (some ⟨b, 4, none⟩)) rfl (by kernel_rfl) (by kernel_rfl) (by kernel_rfl) (by kernel_rfl) (fun _ _ _ h => h) hS (Or.inl ⟨by rfl, fun w hSw => ?_⟩) ?_
  · go_split_ands
    go_simp
  try simp only [Act.put, List.setIfInBounds_toArray, List.set_cons_zero, List.set_cons_succ]
  refine wpAnyL_take (i := 4) (oi := { dst := some 13, op := Go.Op.load 40 (Go.Operand.tmp 12), type := 40, pos := "slots.go:27", after := #[{ on := 3, ground := Go.Ground.data }], guard := none }) (v := pv1) rfl (by kernel_rfl) (by kernel_rfl) (by kernel_rfl) (by kernel_rfl) (fun _ _ _ h => h) hS (Or.inl ⟨by rfl, fun w hSw => ?_⟩) ?_
  · go_split_ands
    go_simp
  try simp only [Act.put, List.setIfInBounds_toArray, List.set_cons_zero, List.set_cons_succ]
  refine wpAnyL_take0 (i := 5) (oi := { dst := some 14, op := Go.Op.move (Go.Operand.tmp 0), type := 117, pos := "slots.go:27", after := #[], guard := none }) (v := .pointer (some ⟨b, 2, none⟩)) rfl (by kernel_rfl) (by kernel_rfl) (by kernel_rfl) (by kernel_rfl) (fun _ _ _ h => h) hS (Or.inl ⟨by rfl, fun w hSw => ?_⟩) ?_
  · go_split_ands
    go_simp
  try simp only [Act.put, List.setIfInBounds_toArray, List.set_cons_zero, List.set_cons_succ]
  refine wpAnyL_take0 (i := 6) (oi := { dst := some 15, op := Go.Op.nilCheck (Go.Operand.tmp 14), type := 0, pos := "slots.go:27", after := #[{ on := 5, ground := Go.Ground.data }], guard := none }) (v := .pointer (some ⟨b, 2, none⟩)) rfl (by kernel_rfl) (by kernel_rfl) (by kernel_rfl) (by kernel_rfl) (fun _ _ _ h => h) hS (Or.inl ⟨by rfl, fun w hSw => ?_⟩) ?_
  · go_split_ands
    go_simp
  try simp only [Act.put, List.setIfInBounds_toArray, List.set_cons_zero, List.set_cons_succ]
  refine wpAnyL_take0 (i := 7) (oi := { dst := some 16, op := Go.Op.fieldAddr 96 (Go.Operand.tmp 15) 0, type := 0, pos := "slots.go:27", after := #[{ on := 6, ground := Go.Ground.data }], guard := none }) (v := .pointer (some ⟨b, 2, none⟩)) rfl (by kernel_rfl) (by kernel_rfl) (by kernel_rfl) (by kernel_rfl) (fun _ _ _ h => h) hS (Or.inl ⟨by rfl, fun w hSw => ?_⟩) ?_
  · go_split_ands
    go_simp
  try simp only [Act.put, List.setIfInBounds_toArray, List.set_cons_zero, List.set_cons_succ]
  refine wpAnyL_take (i := 8) (oi := { dst := some 17, op := Go.Op.load 55 (Go.Operand.tmp 16), type := 55, pos := "slots.go:27", after := #[{ on := 7, ground := Go.Ground.data }], guard := none }) (v := .int .u32 d) rfl (by kernel_rfl) (by kernel_rfl) (by kernel_rfl) (by kernel_rfl) (fun _ _ _ h => h) hS (Or.inl ⟨by rfl, fun w hSw => ?_⟩) ?_
  · go_split_ands
    go_simp
  try simp only [Act.put, List.setIfInBounds_toArray, List.set_cons_zero, List.set_cons_succ]
  refine wpAnyL_take0 (i := 9) (oi := { dst := some 18, op := Go.Op.move (Go.Operand.tmp 1), type := 3, pos := "slots.go:27", after := #[], guard := none }) (v := .int .i64 i) rfl (by kernel_rfl) (by kernel_rfl) (by kernel_rfl) (by kernel_rfl) (fun _ _ _ h => h) hS (Or.inl ⟨by rfl, fun w hSw => ?_⟩) ?_
  · go_split_ands
    go_simp
  try simp only [Act.put, List.setIfInBounds_toArray, List.set_cons_zero, List.set_cons_succ]
  refine wpAnyL_take0 (i := 11) (oi := { dst := some 20, op := Go.Op.move (Go.Operand.tmp 0), type := 117, pos := "slots.go:27", after := #[], guard := none }) (v := .pointer (some ⟨b, 2, none⟩)) rfl (by kernel_rfl) (by kernel_rfl) (by kernel_rfl) (by kernel_rfl) (fun _ _ _ h => h) hS (Or.inl ⟨by rfl, fun w hSw => ?_⟩) ?_
  · go_split_ands
    go_simp
  try simp only [Act.put, List.setIfInBounds_toArray, List.set_cons_zero, List.set_cons_succ]
  refine wpAnyL_take0 (i := 12) (oi := { dst := some 21, op := Go.Op.nilCheck (Go.Operand.tmp 20), type := 0, pos := "slots.go:27", after := #[{ on := 11, ground := Go.Ground.data }], guard := none }) (v := .pointer (some ⟨b, 2, none⟩)) rfl (by kernel_rfl) (by kernel_rfl) (by kernel_rfl) (by kernel_rfl) (fun _ _ _ h => h) hS (Or.inl ⟨by rfl, fun w hSw => ?_⟩) ?_
  · go_split_ands
    go_simp
  try simp only [Act.put, List.setIfInBounds_toArray, List.set_cons_zero, List.set_cons_succ]
  refine wpAnyL_take0 (i := 13) (oi := { dst := some 22, op := Go.Op.fieldAddr 96 (Go.Operand.tmp 21) 0, type := 0, pos := "slots.go:27", after := #[{ on := 12, ground := Go.Ground.data }], guard := none }) (v := .pointer (some ⟨b, 2, none⟩)) rfl (by kernel_rfl) (by kernel_rfl) (by kernel_rfl) (by kernel_rfl) (fun _ _ _ h => h) hS (Or.inl ⟨by rfl, fun w hSw => ?_⟩) ?_
  · go_split_ands
    go_simp
  try simp only [Act.put, List.setIfInBounds_toArray, List.set_cons_zero, List.set_cons_succ]
  refine wpAnyL_take (i := 14) (oi := { dst := some 23, op := Go.Op.load 55 (Go.Operand.tmp 22), type := 55, pos := "slots.go:27", after := #[{ on := 13, ground := Go.Ground.data }], guard := none }) (v := .int .u32 d) rfl (by kernel_rfl) (by kernel_rfl) (by kernel_rfl) (by kernel_rfl) (fun _ _ _ h => h) hS (Or.inl ⟨by rfl, fun w hSw => ?_⟩) ?_
  · go_split_ands
    go_simp
  try simp only [Act.put, List.setIfInBounds_toArray, List.set_cons_zero, List.set_cons_succ]
  refine wpAnyL_take0 (i := 15) (oi := { dst := some 24, op := Go.Op.move (Go.Operand.tmp 1), type := 3, pos := "slots.go:27", after := #[], guard := none }) (v := .int .i64 i) rfl (by kernel_rfl) (by kernel_rfl) (by kernel_rfl) (by kernel_rfl) (fun _ _ _ h => h) hS (Or.inl ⟨by rfl, fun w hSw => ?_⟩) ?_
  · go_split_ands
    go_simp
  try simp only [Act.put, List.setIfInBounds_toArray, List.set_cons_zero, List.set_cons_succ]
  refine wpAnyL_take (i := 17) (oi := { dst := some 26, op := Go.Op.load 27 (Go.Operand.tmp 5), type := 27, pos := "slots.go:27", after := #[], guard := none }) (v := .agg #[.string p.1, .string p.2]) rfl (by kernel_rfl) (by kernel_rfl) (by kernel_rfl) (by kernel_rfl) (fun _ _ _ h => h) hS (Or.inl ⟨by rfl, fun w hSw => ?_⟩) ?_
  · go_split_ands
    go_simp
  try simp only [Act.put, List.setIfInBounds_toArray, List.set_cons_zero, List.set_cons_succ]
  refine wpAnyL_ready (rs := [10]) (by kernel_rfl) (by simp) ?_
  refine AllReadyL.cons (o := { dst := some 19, op := Go.Op.call { callee := Go.Callee.value (Go.Operand.func 64), args := #[Go.Operand.tmp 17, Go.Operand.tmp 18], argTypes := #[55, 3] }, type := 3, pos := "slots.go:27", after := #[{ on := 8, ground := Go.Ground.data }, { on := 9, ground := Go.Ground.data }], guard := none }) rfl (fun K hK => ?_) AllReadyL.nil
  go_simp
  refine (rank_nat _ _ _ hd).mono ?_
  rintro e w' ⟨rfl, k1, rfl⟩
  go_wp2_with fail
  have hS2 : (fun w' : World => w'.cell? ⟨b, 4, none⟩ = some pv1 ∧ w'.cell? ⟨b, 2, none⟩ = some (.int .u32 d) ∧ w'.cell? ⟨x, 0, none⟩ = some (.string p.1) ∧ w'.cell? ⟨x, 1, none⟩ = some (.string p.2)) (W.drewN k1) := hS
  refine hK.out _ _ (fun _ => hS2) ?_
  clear hK K hS
  try simp only [Act.put, List.setIfInBounds_toArray, List.set_cons_zero, List.set_cons_succ]
  have h2 := h1d.drewN k1
  have hm2 := hmd.drewN k1
  have hsb2 : base ≤ (W.drewN k1).heap.size := hsbd
  have hbx2 : Blk (W.drewN k1) x 27 #[.string p.1, .string p.2] := hbxd
  clear h1d hmd hsbd hbxd
  generalize W.drewN k1 = W2 at *
  have hS := hS2
  clear hS2
  refine wpAnyL_ready (rs := [16]) (by kernel_rfl) (by simp) ?_
  refine AllReadyL.cons (o := { dst := some 25, op := Go.Op.call { callee := Go.Callee.value (Go.Operand.func 63), args := #[Go.Operand.tmp 23, Go.Operand.tmp 24], argTypes := #[55, 3] }, type := 4, pos := "slots.go:27", after := #[{ on := 14, ground := Go.Ground.data }, { on := 15, ground := Go.Ground.data }, { on := 10, ground := Go.Ground.chain }], guard := none }) rfl (fun K hK => ?_) AllReadyL.nil
  go_simp
  refine (has_nat _ _ _ hd hi tb htb.out.symm).mono ?_
  rintro e w' ⟨rfl, rfl⟩
  go_wp2_with fail
  refine hK.out _ _ (fun _ => hS) ?_
  clear hK K
  try simp only [Act.put, List.setIfInBounds_toArray, List.set_cons_zero, List.set_cons_succ]
  refine wpAnyL_ready (rs := [18]) (by kernel_rfl) (by simp) ?_
  refine AllReadyL.cons (o := { dst := some 27, op := Go.Op.call { callee := Go.Callee.value (Go.Operand.func 61), args := #[Go.Operand.tmp 13, Go.Operand.tmp 19, Go.Operand.tmp 25, Go.Operand.tmp 26], argTypes := #[40, 3, 4, 27] }, type := 40, pos := "slots.go:27", after := #[{ on := 4, ground := Go.Ground.data }, { on := 10, ground := Go.Ground.data }, { on := 16, ground := Go.Ground.data }, { on := 17, ground := Go.Ground.data }, { on := 16, ground := Go.Ground.chain }], guard := none }) rfl (fun K hK => ?_) AllReadyL.nil
  go_simp
  rw [← hrr.out]
  refine (place_pairs base r tb pv1 xs p W2 h2.prs (by rw [hrr.out]; exact hle) (fun e => by rw [hrr.out]; exact HR1.out (htb.out.symm.trans e)) (by omega) hsb2).mono ?_
  rintro e w3 ⟨v', rfl, hO, hso, hK3⟩
  go_wp2_with fail
  have hb3 : Blk w3 b 98 #[o, .bool bk, .int .u32 d, .int .u32 nn1, pv1, kv1] := h2.blk.keep hK3 (fun hx => by have := h2.pne; simp at hx; exact this hx)
  have hbx3 : Blk w3 x 27 #[.string p.1, .string p.2] := hbx2.keep hK3 (by simpa using hxf1)
  have hS3 : (fun w' : World => w'.cell? ⟨b, 4, none⟩ = some pv1 ∧ w'.cell? ⟨b, 2, none⟩ = some (.int .u32 d) ∧ w'.cell? ⟨x, 0, none⟩ = some (.string p.1) ∧ w'.cell? ⟨x, 1, none⟩ = some (.string p.2)) w3 := ⟨hb3.cell 4, hb3.cell 2, hbx3.cell 0, hbx3.cell 1⟩
  refine hK.out _ _ (fun _ => hS3) ?_
  clear hK K hS
  try simp only [Act.put, List.setIfInBounds_toArray, List.set_cons_zero, List.set_cons_succ]
  have hS := hS3
  have h4 := h2.setP (w' := w3) hK3 hO
  have hm4 : Moves b pv kv v' kv1 w (w3.setCell ⟨b, 4, none⟩ v') := by
    refine (hm2.trans ⟨hso, .refl _ _, hK3.sub (by intro y hy; simp only [foot, List.mem_cons, List.mem_append]; exact .inr (.inl hy))⟩).setCell _ _
  have g4 := hb3.cell 4
  have q4 := hb3.frozen 4
  simp only [List.getElem?_toArray, List.getElem?_cons_succ, List.getElem?_cons_zero] at g4
  obtain ⟨Av, nv, cv, rfl⟩ : ∃ Av nv cv, v' = .slice Av nv cv := by
    rcases hO.2 with ⟨e, _⟩ | ⟨g, cap, cur, e, _⟩
    · exact ⟨_, _, _, e⟩
    · exact ⟨_, _, _, e⟩
  clear hO hso hK3 h2 hm2 hsb2 hb3 hbx2 hbx3
  refine wpAnyL_take0 (i := 19) (oi := { dst := some 28, op := Go.Op.nilCheck (Go.Operand.tmp 9), type := 0, pos := "slots.go:27", after := #[{ on := 0, ground := Go.Ground.data }, { on := 0, ground := Go.Ground.phase }, { on := 1, ground := Go.Ground.phase }, { on := 2, ground := Go.Ground.phase }, { on := 3, ground := Go.Ground.phase }, { on := 4, ground := Go.Ground.phase }, { on := 5, ground := Go.Ground.phase }, { on := 6, ground := Go.Ground.phase }, { on := 7, ground := Go.Ground.phase }, { on := 8, ground := Go.Ground.phase }, { on := 9, ground := Go.Ground.phase }, { on := 10, ground := Go.Ground.phase }, { on := 11, ground := Go.Ground.phase }, { on := 12, ground := Go.Ground.phase }, { on := 13, ground := Go.Ground.phase }, { on := 14, ground := Go.Ground.phase }, { on := 15, ground := Go.Ground.phase }, { on := 16, ground := Go.Ground.phase }, { on := 17, ground := Go.Ground.phase }, { on := 18, ground := Go.Ground.phase }], guard := none }) (v := .pointer (some ⟨b, 2, none⟩)) rfl (by kernel_rfl) (by kernel_rfl) (by kernel_rfl) (by kernel_rfl) (fun _ _ _ h => h) hS (Or.inl ⟨by rfl, fun w hSw => ?_⟩) ?_
  · go_split_ands
    go_simp
  try simp only [Act.put, List.setIfInBounds_toArray, List.set_cons_zero, List.set_cons_succ]
  refine wpAnyL_take0 (i := 20) (oi := { dst := some 29, op := Go.Op.fieldAddr 96 (Go.Operand.tmp 28) 2, type := 0, pos := "slots.go:27", after := #[{ on := 19, ground := Go.Ground.data }, { on := 0, ground := Go.Ground.phase }, { on := 1, ground := Go.Ground.phase }, { on := 2, ground := Go.Ground.phase }, { on := 3, ground := Go.Ground.phase }, { on := 4, ground := Go.Ground.phase }, { on := 5, ground := Go.Ground.phase }, { on := 6, ground := Go.Ground.phase }, { on := 7, ground := Go.Ground.phase }, { on := 8, ground := Go.Ground.phase }, { on := 9, ground := Go.Ground.phase }, { on := 10, ground := Go.Ground.phase }, { on := 11, ground := Go.Ground.phase }, { on := 12, ground := Go.Ground.phase }, { on := 13, ground := Go.Ground.phase }, { on := 14, ground := Go.Ground.phase }, { on := 15, ground := Go.Ground.phase }, { on := 16, ground := Go.Ground.phase }, { on := 17, ground := Go.Ground.phase }, { on := 18, ground := Go.Ground.phase }], guard := none }) (v := .pointer (some ⟨b, 4, none⟩)) rfl (by kernel_rfl) (by kernel_rfl) (by kernel_rfl) (by kernel_rfl) (fun _ _ _ h => h) hS (Or.inl ⟨by rfl, fun w hSw => ?_⟩) ?_
  · go_split_ands
    go_simp
  try simp only [Act.put, List.setIfInBounds_toArray, List.set_cons_zero, List.set_cons_succ]
  refine wpAnyL_ready (rs := [21]) (by kernel_rfl) (by simp) ?_
  refine AllReadyL.cons (o := { dst := none, op := Go.Op.store 40 (Go.Operand.tmp 29) (Go.Operand.tmp 27), type := 0, pos := "slots.go:27", after := #[{ on := 20, ground := Go.Ground.data }, { on := 18, ground := Go.Ground.data }, { on := 18, ground := Go.Ground.chain }, { on := 0, ground := Go.Ground.phase }, { on := 1, ground := Go.Ground.phase }, { on := 2, ground := Go.Ground.phase }, { on := 3, ground := Go.Ground.phase }, { on := 4, ground := Go.Ground.phase }, { on := 5, ground := Go.Ground.phase }, { on := 6, ground := Go.Ground.phase }, { on := 7, ground := Go.Ground.phase }, { on := 8, ground := Go.Ground.phase }, { on := 9, ground := Go.Ground.phase }, { on := 10, ground := Go.Ground.phase }, { on := 11, ground := Go.Ground.phase }, { on := 12, ground := Go.Ground.phase }, { on := 13, ground := Go.Ground.phase }, { on := 14, ground := Go.Ground.phase }, { on := 15, ground := Go.Ground.phase }, { on := 16, ground := Go.Ground.phase }, { on := 17, ground := Go.Ground.phase }, { on := 18, ground := Go.Ground.phase }], guard := none }) rfl (fun K hK => ?_) AllReadyL.nil
  go_simp
  refine hK.out _ _ (late_no (by kernel_rfl)) ?_
  clear hK K hS hS3
  try simp only [Act.put, List.setIfInBounds_toArray, List.set_cons_zero, List.set_cons_succ]
  refine wpAnyL_done (by kernel_rfl) ?_ _
  generalize w3.setCell ⟨b, 4, none⟩ (.slice Av nv cv) = W4 at *
  clear g4 q4
  have g5 := h4.blk.cell 2
  simp only [List.getElem?_toArray, List.getElem?_cons_succ, List.getElem?_cons_zero] at g5
  go_wp2_with fail
  refine (with_any _ _ _ hd).mono ?_
  rintro e w' ⟨rfl, rfl⟩
  have q5 := h4.blk.frozen 2
  have h5 := h4.setD (d ||| onl (i : Int))
  have hm5 := hm4.setCell 2 (.int .u32 (d ||| onl (i : Int) : Nat))
  clear h4 hm4
  go_wp2_with fail
  go_end0
  rw [hrr.out, htb.out] at h5
  exact ⟨rfl, _, _, h5, hm5⟩

set_option maxRecDepth 100000 in
set_option maxHeartbeats 8000000 in
theorem setKid_any (base b i : Nat) (k : Nat) (o : Value) (bk : Bool) (d nn : Nat) (pv kv : Value) (xs : List Pr) (ks : List Nat) (w : World) (h : NdV base w b o bk d nn pv kv xs ks) (hd : d < 4294967296) (hnn : nn < 4294967296) (hi : i < 32)
    (hr1 : d.testBit i = true → cnt i d < xs.length) (hr2 : nn.testBit i = true → cnt i nn < ks.length) (hle : cnt i nn ≤ ks.length) (hn1 : xs.length ≤ 800) (hn2 : ks.length ≤ 800) (hbase : base ≤ w.heap.size) :
    Calls Try.prog 57 #[.pointer (some ⟨b, 2, none⟩), .int .i64 i, at0 k] w (SlotPost base b o bk (clrB d i) (nn ||| onl (i : Int)) (clrL d i xs) (setL nn i k ks) pv kv w) := by
  have HR1 := Lib.hid hr1
  have HR2 := Lib.hid hr2
  clear hr1 hr2
  have hA := h
  have hmA := Moves.refl b pv kv w
  unfold at0
  go_enter Try.func57, Try.ntmps57
  go_wp2_with fail
  refine (clearPair_any base b i o bk d nn pv kv xs ks w hA hd hi HR1.out (by omega)).mono ?_
  rintro e w1 ⟨rfl, pv1, kv1, h1, hm1⟩
  have hmB := hmA.trans hm1
  have hsb : base ≤ w1.heap.size := Nat.le_trans hbase hmB.2.2.all.size
  generalize (clrB d i) = d1 at *
  generalize (clrL d i xs) = xs1 at *
  clear hA hmA hm1 h
  have hS : (fun w' : World => w'.cell? ⟨b, 5, none⟩ = some kv1 ∧ w'.cell? ⟨b, 3, none⟩ = some (.int .u32 nn)) w1.drew := ⟨h1.blk.cell 5, h1.blk.cell 3⟩
  have h1d : NdV base w1.drew b o bk d1 nn pv1 kv1 xs1 ks := h1.drewN 1
  have hmd : Moves b pv kv pv1 kv1 w w1.drew := hmB.drewN 1
  have hsbd : base ≤ w1.drew.heap.size := hsb
  obtain ⟨r, hrr0⟩ : ∃ r, r = cnt i nn := ⟨_, rfl⟩
  obtain ⟨tb, htb0⟩ : ∃ tb, tb = nn.testBit i := ⟨_, rfl⟩
  have hrr := Lib.hid hrr0
  have htb := Lib.hid htb0
  clear hrr0 htb0
  clear h1 hmB hsb 
  go_wp2_with fail
  refine wp_region_late (S := fun w' => w'.cell? ⟨b, 5, none⟩ = some kv1 ∧ w'.cell? ⟨b, 3, none⟩ = some (.int .u32 nn)) (st := 21) (by kernel_rfl) ?_
  generalize w1.drew = W at *
  refine wpAnyL_take0 (i := 0) (oi := { dst := some 9, op := Go.Op.move (Go.Operand.tmp 0), type := 117, pos := "slots.go:33", after := #[], guard := none }) (v := .pointer (some ⟨b, 2, none⟩)) rfl (by kernel_rfl) (by kernel_rfl) (by kernel_rfl) (by kernel_rfl) (fun _ _ _ h => h) hS (Or.inl ⟨by rfl, fun w hSw => ?_⟩) ?_
  · go_split_ands
    go_simp
  try simp only [Act.put, List.setIfInBounds_toArray, List.set_cons_zero, List.set_cons_succ]
  refine wpAnyL_take0 (i := 1) (oi := { dst := some 10, op := Go.Op.move (Go.Operand.tmp 0), type := 117, pos := "slots.go:33", after := #[], guard := none }) (v := .pointer (some ⟨b, 2, none⟩)) rfl (by kernel_rfl) (by kernel_rfl) (by kernel_rfl) (by kernel_rfl) (fun _ _ _ h => h) hS (Or.inl ⟨by rfl, fun w hSw => ?_⟩) ?_
  · go_split_ands
    go_simp
  try simp only [Act.put, List.setIfInBounds_toArray, List.set_cons_zero, List.set_cons_succ]
  refine wpAnyL_take0 (i := 2) (oi := { dst := some 11, op := Go.Op.nilCheck (Go.Operand.tmp 10), type := 0, pos := "slots.go:33", after := #[{ on := 1, ground := Go.Ground.data }], guard := none }) (v := .pointer (some ⟨b, 2, none⟩)) rfl (by kernel_rfl) (by kernel_rfl) (by kernel_rfl) (by kernel_rfl) (fun _ _ _ h => h) hS (Or.inl ⟨by rfl, fun w hSw => ?_⟩) ?_
  · go_split_ands
    go_simp
  try simp only [Act.put, List.setIfInBounds_toArray, List.set_cons_zero, List.set_cons_succ]
  refine wpAnyL_take0 (i := 3) (oi := { dst := some 12, op := Go.Op.fieldAddr 96 (Go.Operand.tmp 11) 3, type := 0, pos := "slots.go:33", after := #[{ on := 2, ground := Go.Ground.data }], guard := none }) (v := .pointer (some ⟨b, 5, none⟩)) rfl (by kernel_rfl) (by kernel_rfl) (by kernel_rfl) (by kernel_rfl) (fun _ _ _ h => h) hS (Or.inl ⟨by rfl, fun w hSw => ?_⟩) ?_
  · go_split_ands
    go_simp
  try simp only [Act.put, List.setIfInBounds_toArray, List.set_cons_zero, List.set_cons_succ]
  refine wpAnyL_take (i := 4) (oi := { dst := some 13, op := Go.Op.load 31 (Go.Operand.tmp 12), type := 31, pos := "slots.go:33", after := #[{ on := 3, ground := Go.Ground.data }], guard := none }) (v := kv1) rfl (by kernel_rfl) (by kernel_rfl) (by kernel_rfl) (by kernel_rfl) (fun _ _ _ h => h) hS (Or.inl ⟨by rfl, fun w hSw => ?_⟩) ?_
  · go_split_ands
    go_simp
  try simp only [Act.put, List.setIfInBounds_toArray, List.set_cons_zero, List.set_cons_succ]
  refine wpAnyL_take0 (i := 5) (oi := { dst := some 14, op := Go.Op.move (Go.Operand.tmp 0), type := 117, pos := "slots.go:33", after := #[], guard := none }) (v := .pointer (some ⟨b, 2, none⟩)) rfl (by kernel_rfl) (by kernel_rfl) (by kernel_rfl) (by kernel_rfl) (fun _ _ _ h => h) hS (Or.inl ⟨by rfl, fun w hSw => ?_⟩) ?_
  · go_split_ands
    go_simp
  try simp only [Act.put, List.setIfInBounds_toArray, List.set_cons_zero, List.set_cons_succ]
  refine wpAnyL_take0 (i := 6) (oi := { dst := some 15, op := Go.Op.nilCheck (Go.Operand.tmp 14), type := 0, pos := "slots.go:33", after := #[{ on := 5, ground := Go.Ground.data }], guard := none }) (v := .pointer (some ⟨b, 2, none⟩)) rfl (by kernel_rfl) (by kernel_rfl) (by kernel_rfl) (by kernel_rfl) (fun _ _ _ h => h) hS (Or.inl ⟨by rfl, fun w hSw => ?_⟩) ?_
  · go_split_ands
    go_simp
  try simp only [Act.put, List.setIfInBounds_toArray, List.set_cons_zero, List.set_cons_succ]
  refine wpAnyL_take0 (i := 7) (oi := { dst := some 16, op := Go.Op.fieldAddr 96 (Go.Operand.tmp 15) 1, type := 0, pos := "slots.go:33", after := #[{ on := 6, ground := Go.Ground.data }], guard := none }) (v := .pointer (some ⟨b, 3, none⟩)) rfl (by kernel_rfl) (by kernel_rfl) (by kernel_rfl) (by kernel_rfl) (fun _ _ _ h => h) hS (Or.inl ⟨by rfl, fun w hSw => ?_⟩) ?_
  · go_split_ands
    go_simp
  try simp only [Act.put, List.setIfInBounds_toArray, List.set_cons_zero, List.set_cons_succ]
  refine wpAnyL_take (i := 8) (oi := { dst := some 17, op := Go.Op.load 55 (Go.Operand.tmp 16), type := 55, pos := "slots.go:33", after := #[{ on := 7, ground := Go.Ground.data }], guard := none }) (v := .int .u32 nn) rfl (by kernel_rfl) (by kernel_rfl) (by kernel_rfl) (by kernel_rfl) (fun _ _ _ h => h) hS (Or.inl ⟨by rfl, fun w hSw => ?_⟩) ?_
  · go_split_ands
    go_simp
  try simp only [Act.put, List.setIfInBounds_toArray, List.set_cons_zero, List.set_cons_succ]
  refine wpAnyL_take0 (i := 9) (oi := { dst := some 18, op := Go.Op.move (Go.Operand.tmp 1), type := 3, pos := "slots.go:33", after := #[], guard := none }) (v := .int .i64 i) rfl (by kernel_rfl) (by kernel_rfl) (by kernel_rfl) (by kernel_rfl) (fun _ _ _ h => h) hS (Or.inl ⟨by rfl, fun w hSw => ?_⟩) ?_
  · go_split_ands
    go_simp
  try simp only [Act.put, List.setIfInBounds_toArray, List.set_cons_zero, List.set_cons_succ]
  refine wpAnyL_take0 (i := 11) (oi := { dst := some 20, op := Go.Op.move (Go.Operand.tmp 0), type := 117, pos := "slots.go:33", after := #[], guard := none }) (v := .pointer (some ⟨b, 2, none⟩)) rfl (by kernel_rfl) (by kernel_rfl) (by kernel_rfl) (by kernel_rfl) (fun _ _ _ h => h) hS (Or.inl ⟨by rfl, fun w hSw => ?_⟩) ?_
  · go_split_ands
    go_simp
  try simp only [Act.put, List.setIfInBounds_toArray, List.set_cons_zero, List.set_cons_succ]
  refine wpAnyL_take0 (i := 12) (oi := { dst := some 21, op := Go.Op.nilCheck (Go.Operand.tmp 20), type := 0, pos := "slots.go:33", after := #[{ on := 11, ground := Go.Ground.data }], guard := none }) (v := .pointer (some ⟨b, 2, none⟩)) rfl (by kernel_rfl) (by kernel_rfl) (by kernel_rfl) (by kernel_rfl) (fun _ _ _ h => h) hS (Or.inl ⟨by rfl, fun w hSw => ?_⟩) ?_
  · go_split_ands
    go_simp
  try simp only [Act.put, List.setIfInBounds_toArray, List.set_cons_zero, List.set_cons_succ]
  refine wpAnyL_take0 (i := 13) (oi := { dst := some 22, op := Go.Op.fieldAddr 96 (Go.Operand.tmp 21) 1, type := 0, pos := "slots.go:33", after := #[{ on := 12, ground := Go.Ground.data }], guard := none }) (v := .pointer (some ⟨b, 3, none⟩)) rfl (by kernel_rfl) (by kernel_rfl) (by kernel_rfl) (by kernel_rfl) (fun _ _ _ h => h) hS (Or.inl ⟨by rfl, fun w hSw => ?_⟩) ?_
  · go_split_ands
    go_simp
  try simp only [Act.put, List.setIfInBounds_toArray, List.set_cons_zero, List.set_cons_succ]
  refine wpAnyL_take (i := 14) (oi := { dst := some 23, op := Go.Op.load 55 (Go.Operand.tmp 22), type := 55, pos := "slots.go:33", after := #[{ on := 13, ground := Go.Ground.data }], guard := none }) (v := .int .u32 nn) rfl (by kernel_rfl) (by kernel_rfl) (by kernel_rfl) (by kernel_rfl) (fun _ _ _ h => h) hS (Or.inl ⟨by rfl, fun w hSw => ?_⟩) ?_
  · go_split_ands
    go_simp
  try simp only [Act.put, List.setIfInBounds_toArray, List.set_cons_zero, List.set_cons_succ]
  refine wpAnyL_take0 (i := 15) (oi := { dst := some 24, op := Go.Op.move (Go.Operand.tmp 1), type := 3, pos := "slots.go:33", after := #[], guard := none }) (v := .int .i64 i) rfl (by kernel_rfl) (by kernel_rfl) (by kernel_rfl) (by kernel_rfl) (fun _ _ _ h => h) hS (Or.inl ⟨by rfl, fun w hSw => ?_⟩) ?_
  · go_split_ands
    go_simp
  try simp only [Act.put, List.setIfInBounds_toArray, List.set_cons_zero, List.set_cons_succ]
  refine wpAnyL_take0 (i := 17) (oi := { dst := some 26, op := Go.Op.move (Go.Operand.tmp 2), type := 39, pos := "slots.go:33", after := #[], guard := none }) (v := .pointer (some ⟨k, 0, none⟩)) rfl (by kernel_rfl) (by kernel_rfl) (by kernel_rfl) (by kernel_rfl) (fun _ _ _ h => h) hS (Or.inl ⟨by rfl, fun w hSw => ?_⟩) ?_
  · go_split_ands
    go_simp
  try simp only [Act.put, List.setIfInBounds_toArray, List.set_cons_zero, List.set_cons_succ]
  refine wpAnyL_ready (rs := [10]) (by kernel_rfl) (by simp) ?_
  refine AllReadyL.cons (o := { dst := some 19, op := Go.Op.call { callee := Go.Callee.value (Go.Operand.func 64), args := #[Go.Operand.tmp 17, Go.Operand.tmp 18], argTypes := #[55, 3] }, type := 3, pos := "slots.go:33", after := #[{ on := 8, ground := Go.Ground.data }, { on := 9, ground := Go.Ground.data }], guard := none }) rfl (fun K hK => ?_) AllReadyL.nil
  go_simp
  refine (rank_nat _ _ _ hnn).mono ?_
  rintro e w' ⟨rfl, k1, rfl⟩
  go_wp2_with fail
  have hS2 : (fun w' : World => w'.cell? ⟨b, 5, none⟩ = some kv1 ∧ w'.cell? ⟨b, 3, none⟩ = some (.int .u32 nn)) (W.drewN k1) := hS
  refine hK.out _ _ (fun _ => hS2) ?_
  clear hK K hS
  try simp only [Act.put, List.setIfInBounds_toArray, List.set_cons_zero, List.set_cons_succ]
  have h2 := h1d.drewN k1
  have hm2 := hmd.drewN k1
  have hsb2 : base ≤ (W.drewN k1).heap.size := hsbd
  skip
  clear h1d hmd hsbd 
  generalize W.drewN k1 = W2 at *
  have hS := hS2
  clear hS2
  refine wpAnyL_ready (rs := [16]) (by kernel_rfl) (by simp) ?_
  refine AllReadyL.cons (o := { dst := some 25, op := Go.Op.call { callee := Go.Callee.value (Go.Operand.func 63), args := #[Go.Operand.tmp 23, Go.Operand.tmp 24], argTypes := #[55, 3] }, type := 4, pos := "slots.go:33", after := #[{ on := 14, ground := Go.Ground.data }, { on := 15, ground := Go.Ground.data }, { on := 10, ground := Go.Ground.chain }], guard := none }) rfl (fun K hK => ?_) AllReadyL.nil
  go_simp
  refine (has_nat _ _ _ hnn hi tb htb.out.symm).mono ?_
  rintro e w' ⟨rfl, rfl⟩
  go_wp2_with fail
  refine hK.out _ _ (fun _ => hS) ?_
  clear hK K
  try simp only [Act.put, List.setIfInBounds_toArray, List.set_cons_zero, List.set_cons_succ]
  refine wpAnyL_ready (rs := [18]) (by kernel_rfl) (by simp) ?_
  refine AllReadyL.cons (o := { dst := some 27, op := Go.Op.call { callee := Go.Callee.value (Go.Operand.func 73), args := #[Go.Operand.tmp 13, Go.Operand.tmp 19, Go.Operand.tmp 25, Go.Operand.tmp 26], argTypes := #[31, 3, 4, 39] }, type := 31, pos := "slots.go:33", after := #[{ on := 4, ground := Go.Ground.data }, { on := 10, ground := Go.Ground.data }, { on := 16, ground := Go.Ground.data }, { on := 17, ground := Go.Ground.data }, { on := 16, ground := Go.Ground.chain }], guard := none }) rfl (fun K hK => ?_) AllReadyL.nil
  go_simp
  rw [← hrr.out]
  refine (place_kids base r k tb kv1 ks W2 h2.kds (by rw [hrr.out]; exact hle) (fun e => by rw [hrr.out]; exact HR2.out (htb.out.symm.trans e)) (by omega) hsb2).mono ?_
  rintro e w3 ⟨v', rfl, hO, hso, hK3⟩
  go_wp2_with fail
  have hb3 : Blk w3 b 98 #[o, .bool bk, .int .u32 d1, .int .u32 nn, pv1, kv1] := h2.blk.keep hK3 (fun hx => by have := h2.kne; simp at hx; exact this hx)
  skip
  have hS3 : (fun w' : World => w'.cell? ⟨b, 5, none⟩ = some kv1 ∧ w'.cell? ⟨b, 3, none⟩ = some (.int .u32 nn)) w3 := ⟨hb3.cell 5, hb3.cell 3⟩
  refine hK.out _ _ (fun _ => hS3) ?_
  clear hK K hS
  try simp only [Act.put, List.setIfInBounds_toArray, List.set_cons_zero, List.set_cons_succ]
  have hS := hS3
  have h4 := h2.setK (w' := w3) hK3 hO
  have hm4 : Moves b pv kv pv1 v' w (w3.setCell ⟨b, 5, none⟩ v') := by
    refine (hm2.trans ⟨.refl _ _, hso, hK3.sub (by intro y hy; simp only [foot, List.mem_cons, List.mem_append]; exact .inr (.inr hy))⟩).setCell _ _
  have g4 := hb3.cell 5
  have q4 := hb3.frozen 5
  simp only [List.getElem?_toArray, List.getElem?_cons_succ, List.getElem?_cons_zero] at g4
  obtain ⟨Av, nv, cv, rfl⟩ : ∃ Av nv cv, v' = .slice Av nv cv := by
    rcases hO.2 with ⟨e, _⟩ | ⟨g, cap, cur, e, _⟩
    · exact ⟨_, _, _, e⟩
    · exact ⟨_, _, _, e⟩
  clear hO hso hK3 h2 hm2 hsb2 hb3 
  refine wpAnyL_take0 (i := 19) (oi := { dst := some 28, op := Go.Op.nilCheck (Go.Operand.tmp 9), type := 0, pos := "slots.go:33", after := #[{ on := 0, ground := Go.Ground.data }, { on := 0, ground := Go.Ground.phase }, { on := 1, ground := Go.Ground.phase }, { on := 2, ground := Go.Ground.phase }, { on := 3, ground := Go.Ground.phase }, { on := 4, ground := Go.Ground.phase }, { on := 5, ground := Go.Ground.phase }, { on := 6, ground := Go.Ground.phase }, { on := 7, ground := Go.Ground.phase }, { on := 8, ground := Go.Ground.phase }, { on := 9, ground := Go.Ground.phase }, { on := 10, ground := Go.Ground.phase }, { on := 11, ground := Go.Ground.phase }, { on := 12, ground := Go.Ground.phase }, { on := 13, ground := Go.Ground.phase }, { on := 14, ground := Go.Ground.phase }, { on := 15, ground := Go.Ground.phase }, { on := 16, ground := Go.Ground.phase }, { on := 17, ground := Go.Ground.phase }, { on := 18, ground := Go.Ground.phase }], guard := none }) (v := .pointer (some ⟨b, 2, none⟩)) rfl (by kernel_rfl) (by kernel_rfl) (by kernel_rfl) (by kernel_rfl) (fun _ _ _ h => h) hS (Or.inl ⟨by rfl, fun w hSw => ?_⟩) ?_
  · go_split_ands
    go_simp
  try simp only [Act.put, List.setIfInBounds_toArray, List.set_cons_zero, List.set_cons_succ]
  refine wpAnyL_take0 (i := 20) (oi := { dst := some 29, op := Go.Op.fieldAddr 96 (Go.Operand.tmp 28) 3, type := 0, pos := "slots.go:33", after := #[{ on := 19, ground := Go.Ground.data }, { on := 0, ground := Go.Ground.phase }, { on := 1, ground := Go.Ground.phase }, { on := 2, ground := Go.Ground.phase }, { on := 3, ground := Go.Ground.phase }, { on := 4, ground := Go.Ground.phase }, { on := 5, ground := Go.Ground.phase }, { on := 6, ground := Go.Ground.phase }, { on := 7, ground := Go.Ground.phase }, { on := 8, ground := Go.Ground.phase }, { on := 9, ground := Go.Ground.phase }, { on := 10, ground := Go.Ground.phase }, { on := 11, ground := Go.Ground.phase }, { on := 12, ground := Go.Ground.phase }, { on := 13, ground := Go.Ground.phase }, { on := 14, ground := Go.Ground.phase }, { on := 15, ground := Go.Ground.phase }, { on := 16, ground := Go.Ground.phase }, { on := 17, ground := Go.Ground.phase }, { on := 18, ground := Go.Ground.phase }], guard := none }) (v := .pointer (some ⟨b, 5, none⟩)) rfl (by kernel_rfl) (by kernel_rfl) (by kernel_rfl) (by kernel_rfl) (fun _ _ _ h => h) hS (Or.inl ⟨by rfl, fun w hSw => ?_⟩) ?_
  · go_split_ands
    go_simp
  try simp only [Act.put, List.setIfInBounds_toArray, List.set_cons_zero, List.set_cons_succ]
  refine wpAnyL_ready (rs := [21]) (by kernel_rfl) (by simp) ?_
  refine AllReadyL.cons (o := { dst := none, op := Go.Op.store 31 (Go.Operand.tmp 29) (Go.Operand.tmp 27), type := 0, pos := "slots.go:33", after := #[{ on := 20, ground := Go.Ground.data }, { on := 18, ground := Go.Ground.data }, { on := 18, ground := Go.Ground.chain }, { on := 0, ground := Go.Ground.phase }, { on := 1, ground := Go.Ground.phase }, { on := 2, ground := Go.Ground.phase }, { on := 3, ground := Go.Ground.phase }, { on := 4, ground := Go.Ground.phase }, { on := 5, ground := Go.Ground.phase }, { on := 6, ground := Go.Ground.phase }, { on := 7, ground := Go.Ground.phase }, { on := 8, ground := Go.Ground.phase }, { on := 9, ground := Go.Ground.phase }, { on := 10, ground := Go.Ground.phase }, { on := 11, ground := Go.Ground.phase }, { on := 12, ground := Go.Ground.phase }, { on := 13, ground := Go.Ground.phase }, { on := 14, ground := Go.Ground.phase }, { on := 15, ground := Go.Ground.phase }, { on := 16, ground := Go.Ground.phase }, { on := 17, ground := Go.Ground.phase }, { on := 18, ground := Go.Ground.phase }], guard := none }) rfl (fun K hK => ?_) AllReadyL.nil
  go_simp
  refine hK.out _ _ (late_no (by kernel_rfl)) ?_
  clear hK K hS hS3
  try simp only [Act.put, List.setIfInBounds_toArray, List.set_cons_zero, List.set_cons_succ]
  refine wpAnyL_done (by kernel_rfl) ?_ _
  generalize w3.setCell ⟨b, 5, none⟩ (.slice Av nv cv) = W4 at *
  clear g4 q4
  have g5 := h4.blk.cell 3
  simp only [List.getElem?_toArray, List.getElem?_cons_succ, List.getElem?_cons_zero] at g5
  go_wp2_with fail
  refine (with_any _ _ _ hnn).mono ?_
  rintro e w' ⟨rfl, rfl⟩
  have q5 := h4.blk.frozen 3
  have h5 := h4.setN (nn ||| onl (i : Int))
  have hm5 := hm4.setCell 3 (.int .u32 (nn ||| onl (i : Int) : Nat))
  clear h4 hm4
  go_wp2_with fail
  go_end0
  rw [hrr.out, htb.out] at h5
  exact ⟨rfl, _, _, h5, hm5⟩
end Go.Proofs.Ytgldgdpgbfejmaa
