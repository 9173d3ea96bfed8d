/- ChampNil: for every hasher and every pair the law returns true: a nil root counts as one of no pairs. Conditions: none beyond the given statement. -/
import Derived.Test.YtfmbikmpobieoaaGreatRows
import Derived.WalkKit
import Derived.ProofKit
import Derived.OpenShut
import Derived.ShutString
import Derived.ChangeOld
import Derived.Below
import Derived.BigQuiet
import Derived.Deep.RegionHeld3
import Derived.Carry
import Derived.Lib.SmallJoins
import Derived.Test.YtfmbikmpobieoaaGreatMY
namespace Go.Proofs.YtfmbikmpobieoaaGreat.champNil
open Go.ChangeShapes Go.WideShapes Go.ChangeAt Go.RowKit Go.Joins Go.Lib
open Go.ChangeMaps (open_string shut_string)
set_option linter.unusedVariables false
set_option linter.unusedSimpArgs false
set_option maxRecDepth 100000
attribute [local irreducible] cnt

theorem own : ownKnob Tryz.prog.godebug = none := by kernel_rfl
theorem laidOut : laidOutB Tryz.prog = true := by kernel_rfl

theorem keep5 {w w' : World} {N2 N3 : Nat} {a b c d e : Value} (h : w.cell? ⟨N2, 0, none⟩ = some a ∧ w.cell? ⟨N2, 1, none⟩ = some b ∧ w.cell? ⟨N2, 2, none⟩ = some c ∧ w.cell? ⟨N3, 0, none⟩ = some d ∧ w.cell? ⟨N3, 1, none⟩ = some e) (hb : Below w.heap.size w w') :
    w'.cell? ⟨N2, 0, none⟩ = some a ∧ w'.cell? ⟨N2, 1, none⟩ = some b ∧ w'.cell? ⟨N2, 2, none⟩ = some c ∧ w'.cell? ⟨N3, 0, none⟩ = some d ∧ w'.cell? ⟨N3, 1, none⟩ = some e := by
  obtain ⟨h1, h2, h3, h4, h5⟩ := h
  have l2 := World.block_lt_of_cell? w _ h1
  have l3 := World.block_lt_of_cell? w _ h4
  exact ⟨(hb.cell (p := ⟨N2, 0, none⟩) l2).trans h1, (hb.cell (p := ⟨N2, 1, none⟩) l2).trans h2, (hb.cell (p := ⟨N2, 2, none⟩) l2).trans h3, (hb.cell (p := ⟨N3, 0, none⟩) l3).trans h4, (hb.cell (p := ⟨N3, 1, none⟩) l3).trans h5⟩
theorem rd_nil (w : World) : Rd w none [] := fun j p h => by simp at h
theorem rd_one {w : World} {N : Nat} {pk pu : ByteArray} (h : Blk w N 45 #[.string pk, .string pu]) : Rd w (some ⟨N, 0, none⟩) [(pk, pu)] := fun j p hj => by
  have hl := (List.getElem?_eq_some_iff.1 hj).1
  simp at hl
  subst hl
  simp at hj
  subst hj
  exact ⟨N, 0, rfl, h.cell 0, h.cell 1⟩
theorem fresh_plain {k0 k1 m : Int} {base : Nat} {w : World} {b : Nat} {ps : List Pr} {w' : World} (h : Fresh (hz k0 k1 m) (fun _ => False) none false base 13 0 ps w b w') : TP k0 k1 m base w' b ps := by
  obtain ⟨F, hT, -, -⟩ := h
  exact Trie.forget _ _ _ _ _ hT none
set_option maxHeartbeats 8000000 in
theorem walk (k0 k1 m : Int) (x1 y1 : ByteArray) (w : World) (h0 : U64 k0) (h1 : U64 k1) :
    Calls Tryz.prog 7 #[.agg #[.int .u64 k0, .int .u64 k1, .int .u64 m], .agg #[.string x1, .string y1]] w fun e w' => e = .returned (.bool true) ∧ Below w.heap.size w w' := by
  have hB0 := ((Below.refl _ w).alloc (Nat.le_refl _) (.cells #[.int .u64 k0, .int .u64 k1, .int .u64 m] 26)).alloc (by simp) (.cells #[.string x1, .string y1] 34)
  have b1 := (Blk.new w 26 #[.int .u64 k0, .int .u64 k1, .int .u64 m]).alloc (.cells #[.string x1, .string y1] 34)
  have b2 := Blk.new (w.alloc (.cells #[.int .u64 k0, .int .u64 k1, .int .u64 m] 26)) 34 #[.string x1, .string y1]
  have e1 : (w.alloc (.cells #[.int .u64 k0, .int .u64 k1, .int .u64 m] 26)).heap.size = w.heap.size + 1 := by simp
  rw [e1] at b2
  clear e1
  go_enter Tryz.func7, Tryz.ntmps7
  go_upto_region 1 with (fail)
  generalize (w.alloc (.cells #[.int .u64 k0, .int .u64 k1, .int .u64 m] 26)).alloc (.cells #[.string x1, .string y1] 34) = W at *
  obtain ⟨N3, hN3⟩ : ∃ N3, N3 = w.heap.size + 1 := ⟨_, rfl⟩
  rw [← hN3] at b2 ⊢
  obtain ⟨N2, hN2⟩ : ∃ N2, N2 = w.heap.size := ⟨_, rfl⟩
  rw [← hN2] at b1 ⊢
  have l3 : w.heap.size ≤ N3 := by omega
  have n23 : N2 ≠ N3 := by omega
  clear hN3 hN2
  go_wp2_with fail
  refine (awake_any _).mono ?_
  rintro e w1 ⟨rfl, hB1⟩
  have c1 := b1.below hB1
  have c2 := b2.below hB1
  have hB := hB0.trans (hB1.mono hB0.size)
  have q0 : w1.cell? ⟨N3, 0, none⟩ = some (.string x1) := c2.cell 0
  have q1 : w1.cell? ⟨N3, 1, none⟩ = some (.string y1) := c2.cell 1
  clear b1 b2 hB1 hB0
  have kf := few_any (x1, y1) w1
  go_wp2_with fail
  refine kf.mono ?_
  rintro e w2 ⟨rfl, hB2⟩
  have d1 := c1.below hB2
  have d2 := c2.below hB2
  have hsz : (few40 (x1, y1)).1.size ≤ 1000 := Nat.le_trans (cut40_size x1) (by omega)
  have hB := hB.trans (hB2.mono hB.size)
  obtain ⟨pk, hpk⟩ : ∃ pk, pk = (few40 (x1, y1)).1 := ⟨_, rfl⟩
  obtain ⟨pu, hpu⟩ : ∃ pu, pu = (few40 (x1, y1)).2 := ⟨_, rfl⟩
  rw [← hpk] at hsz
  rw [← hpk, ← hpu]
  have r0 : w2.cell? ⟨N3, 0, none⟩ = some (.string x1) := d2.cell 0
  have r1 : w2.cell? ⟨N3, 1, none⟩ = some (.string y1) := d2.cell 1
  have f0 := d2.frozen 0
  have f1 := d2.frozen 1
  have d2' : Blk ((w2.setCell ⟨N3, 0, none⟩ (.string pk)).setCell ⟨N3, 1, none⟩ (.string pu)) N3 34 #[.string pk, .string pu] := (d2.set_ 0 (.string pk)).set_ 1 (.string pu)
  have d1' : Blk ((w2.setCell ⟨N3, 0, none⟩ (.string pk)).setCell ⟨N3, 1, none⟩ (.string pu)) N2 26 #[.int .u64 k0, .int .u64 k1, .int .u64 m] := (d1.far (p := ⟨N3, 0, none⟩) n23 _).far (p := ⟨N3, 1, none⟩) n23 _
  have hB' : Below w.heap.size w ((w2.setCell ⟨N3, 0, none⟩ (.string pk)).setCell ⟨N3, 1, none⟩ (.string pu)) := (hB.setCell (p := ⟨N3, 0, none⟩) l3 _).setCell (p := ⟨N3, 1, none⟩) l3 _
  clear kf c1 c2 q0 q1 hB2 d1 d2 hpk hpu hB
  go_upto_region 4 with (fail)
  generalize (w2.setCell ⟨N3, 0, none⟩ (.string pk)).setCell ⟨N3, 1, none⟩ (.string pu) = W3 at *
  have hB := hB'
  have hS : (fun w' : World => w'.cell? ⟨N2, 0, none⟩ = some (.int .u64 k0) ∧ w'.cell? ⟨N2, 1, none⟩ = some (.int .u64 k1) ∧ w'.cell? ⟨N2, 2, none⟩ = some (.int .u64 m) ∧ w'.cell? ⟨N3, 0, none⟩ = some (.string pk) ∧ w'.cell? ⟨N3, 1, none⟩ = some (.string pu)) W3 := ⟨d1'.cell 0, d1'.cell 1, d1'.cell 2, d2'.cell 0, d2'.cell 1⟩
  obtain ⟨s0, s1, s2, s3, s4⟩ := id hS
  clear d1' d2' hB' r0 r1 f0 f1
  go_wp2_with fail
  refine (get_nil k0 k1 m pk W3 h0 h1 hsz).mono ?_
  rintro e w4 ⟨rfl, hB4⟩
  simp only [Option.getD_none, Option.isSome_none]
  have hB := hB.trans (hB4.mono hB.size)
  have hS4 := keep5 hS hB4
  clear s0 s1 s2 s3 s4 hS hB4
  obtain ⟨s0, s1, s2, s3, s4⟩ := id hS4
  go_wp2_with fail
  refine (Put_nil k0 k1 m (fun _ => False) none false w.heap.size none pk pu w4 rfl h0 h1 hsz (cx_nil hB.size)).mono ?_
  rintro e w5 ⟨bn, rfl, hF5, hB5⟩
  have hTn := fresh_plain hF5
  have hB := hB.trans (hB5.mono hB.size)
  have hS5 := keep5 hS4 hB5
  clear s0 s1 s2 s3 s4 hS4 hB5 hF5
  obtain ⟨s0, s1, s2, s3, s4⟩ := id hS5
  have kd := drop_plain (k := pk) h0 h1 hsz hB.size hTn (rises_one _) (by simp)
  have eg : getK [(pk, pu)] pk = some pu := by simp [getK]
  have ed : dropK [(pk, pu)] pk = [] := by simp [dropK]
  rw [eg, ed] at kd
  go_wp2_with fail
  refine kd.mono ?_
  rintro e w6 ⟨bm, rfl, hTm, hB6, -⟩
  simp only [Option.isSome_some]
  have hTn := hTn.below hB6
  have hB := hB.trans (hB6.mono hB.size)
  have hS6 := keep5 hS5 hB6
  clear s0 s1 s2 s3 s4 hS5 hB6 kd
  obtain ⟨s0, s1, s2, s3, s4⟩ := id hS6
  go_wp2_with fail
  refine (Drop_nil k0 k1 m (fun _ => False) none false w.heap.size none pk w6 rfl h0 h1 hsz (cx_nil hB.size)).mono ?_
  rintro e w7 ⟨b7, rfl, hF7, hB7⟩
  have hTn := hTn.below hB7
  have hTm := hTm.below hB7
  have hB := hB.trans (hB7.mono hB.size)
  have hS7 := keep5 hS6 hB7
  clear s0 s1 s2 s3 s4 hS6 hB7 hF7
  go_upto_region 8 with (fail)
  have hB := hB.drew
  have hS0 : (fun w' : World => w'.cell? ⟨N2, 0, none⟩ = some (.int .u64 k0) ∧ w'.cell? ⟨N2, 1, none⟩ = some (.int .u64 k1) ∧ w'.cell? ⟨N2, 2, none⟩ = some (.int .u64 m) ∧ w'.cell? ⟨N3, 0, none⟩ = some (.string pk) ∧ w'.cell? ⟨N3, 1, none⟩ = some (.string pu)) w7.drew := hS7
  have hdr : Below w7.heap.size w7 w7.drew := (Below.refl _ w7).drew
  have hTn := hTn.below hdr
  have hTm := hTm.below hdr
  clear hS7 hdr
  refine wp_region_held_drew (S := fun w' : World => w'.cell? ⟨N2, 0, none⟩ = some (.int .u64 k0) ∧ w'.cell? ⟨N2, 1, none⟩ = some (.int .u64 k1) ∧ w'.cell? ⟨N2, 2, none⟩ = some (.int .u64 m) ∧ w'.cell? ⟨N3, 0, none⟩ = some (.string pk) ∧ w'.cell? ⟨N3, 1, none⟩ = some (.string pu)) (by kernel_rfl) hS0 ?_
  intro hS
  refine wpAnyH_take (i := 0) (oi := { dst := some 45, op := Go.Op.move (Go.Operand.tmp 6), type := 4, pos := "law.go:249", after := #[], guard := none }) (v := .bool false) rfl (by kernel_rfl) (by kernel_rfl) (by kernel_rfl) (fun _ _ _ h => h) (Or.inl ⟨by rfl, fun w hSw => ?_⟩) hS ?_
  · go_split_ands
    go_simp
  try simp only [Act.put, List.setIfInBounds_toArray, List.set_cons_zero, List.set_cons_succ]
  refine wpAnyH_take (i := 1) (oi := { dst := some 46, op := Go.Op.unOp Go.UnOp.not 4 (Go.Operand.tmp 45), type := 4, pos := "law.go:249", after := #[{ on := 0, ground := Go.Ground.data }], guard := none }) (v := .bool true) rfl (by kernel_rfl) (by kernel_rfl) (by kernel_rfl) (fun _ _ _ h => h) (Or.inl ⟨by rfl, fun w hSw => ?_⟩) hS ?_
  · go_split_ands
    go_simp
  try simp only [Act.put, List.setIfInBounds_toArray, List.set_cons_zero, List.set_cons_succ]
  refine wpAnyH_take (i := 2) (oi := { dst := some 47, op := Go.Op.move (Go.Operand.tmp 46), type := 4, pos := "law.go:249", after := #[{ on := 1, ground := Go.Ground.data }], guard := none }) (v := .bool true) rfl (by kernel_rfl) (by kernel_rfl) (by kernel_rfl) (fun _ _ _ h => h) (Or.inl ⟨by rfl, fun w hSw => ?_⟩) hS ?_
  · go_split_ands
    go_simp
  try simp only [Act.put, List.setIfInBounds_toArray, List.set_cons_zero, List.set_cons_succ]
  refine wpAnyH_take (i := 3) (oi := { dst := some 48, op := Go.Op.move (Go.Operand.tmp 8), type := 4, pos := "law.go:249", after := #[{ on := 2, ground := Go.Ground.guard }], guard := some (2, true) }) (v := .bool true) rfl (by kernel_rfl) (by kernel_rfl) (by kernel_rfl) (fun _ _ _ h => h) (Or.inl ⟨by rfl, fun w hSw => ?_⟩) hS ?_
  · go_split_ands
    go_simp
  try simp only [Act.put, List.setIfInBounds_toArray, List.set_cons_zero, List.set_cons_succ]
  refine wpAnyH_take (i := 4) (oi := { dst := some 49, op := Go.Op.pick (Go.Operand.tmp 47) (Go.Operand.tmp 48) (Go.Operand.const (Go.Value.bool false)), type := 4, pos := "law.go:249", after := #[{ on := 2, ground := Go.Ground.data }, { on := 3, ground := Go.Ground.data }], guard := none }) (v := .bool true) rfl (by kernel_rfl) (by kernel_rfl) (by kernel_rfl) (fun _ _ _ h => h) (Or.inl ⟨by rfl, fun w hSw => ?_⟩) hS ?_
  · go_split_ands
    go_simp
  try simp only [Act.put, List.setIfInBounds_toArray, List.set_cons_zero, List.set_cons_succ]
  refine wpAnyH_take (i := 5) (oi := { dst := some 50, op := Go.Op.move (Go.Operand.tmp 49), type := 4, pos := "law.go:249", after := #[{ on := 4, ground := Go.Ground.data }, { on := 2, ground := Go.Ground.chain }], guard := none }) (v := .bool true) rfl (by kernel_rfl) (by kernel_rfl) (by kernel_rfl) (fun _ _ _ h => h) (Or.inl ⟨by rfl, fun w hSw => ?_⟩) hS ?_
  · go_split_ands
    go_simp
  try simp only [Act.put, List.setIfInBounds_toArray, List.set_cons_zero, List.set_cons_succ]
  refine wpAnyH_take (i := 6) (oi := { dst := some 51, op := Go.Op.move (Go.Operand.tmp 10), type := 4, pos := "law.go:249", after := #[{ on := 5, ground := Go.Ground.guard }], guard := some (5, true) }) (v := .bool true) rfl (by kernel_rfl) (by kernel_rfl) (by kernel_rfl) (fun _ _ _ h => h) (Or.inl ⟨by rfl, fun w hSw => ?_⟩) hS ?_
  · go_split_ands
    go_simp
  try simp only [Act.put, List.setIfInBounds_toArray, List.set_cons_zero, List.set_cons_succ]
  refine wpAnyH_take (i := 7) (oi := { dst := some 52, op := Go.Op.pick (Go.Operand.tmp 50) (Go.Operand.tmp 51) (Go.Operand.const (Go.Value.bool false)), type := 4, pos := "law.go:249", after := #[{ on := 5, ground := Go.Ground.data }, { on := 6, ground := Go.Ground.data }], guard := none }) (v := .bool true) rfl (by kernel_rfl) (by kernel_rfl) (by kernel_rfl) (fun _ _ _ h => h) (Or.inl ⟨by rfl, fun w hSw => ?_⟩) hS ?_
  · go_split_ands
    go_simp
  try simp only [Act.put, List.setIfInBounds_toArray, List.set_cons_zero, List.set_cons_succ]
  refine wpAnyH_take (i := 8) (oi := { dst := some 53, op := Go.Op.move (Go.Operand.tmp 52), type := 4, pos := "law.go:249", after := #[{ on := 7, ground := Go.Ground.data }, { on := 5, ground := Go.Ground.chain }], guard := none }) (v := .bool true) rfl (by kernel_rfl) (by kernel_rfl) (by kernel_rfl) (fun _ _ _ h => h) (Or.inl ⟨by rfl, fun w hSw => ?_⟩) hS ?_
  · go_split_ands
    go_simp
  try simp only [Act.put, List.setIfInBounds_toArray, List.set_cons_zero, List.set_cons_succ]
  refine wpAnyH_take (i := 9) (oi := { dst := some 54, op := Go.Op.move (Go.Operand.tmp 12), type := 4, pos := "law.go:249", after := #[{ on := 8, ground := Go.Ground.guard }], guard := some (8, true) }) (v := .bool false) rfl (by kernel_rfl) (by kernel_rfl) (by kernel_rfl) (fun _ _ _ h => h) (Or.inl ⟨by rfl, fun w hSw => ?_⟩) hS ?_
  · go_split_ands
    go_simp
  try simp only [Act.put, List.setIfInBounds_toArray, List.set_cons_zero, List.set_cons_succ]
  refine wpAnyH_take (i := 10) (oi := { dst := some 55, op := Go.Op.unOp Go.UnOp.not 4 (Go.Operand.tmp 54), type := 4, pos := "law.go:249", after := #[{ on := 9, ground := Go.Ground.data }, { on := 8, ground := Go.Ground.guard }], guard := some (8, true) }) (v := .bool true) rfl (by kernel_rfl) (by kernel_rfl) (by kernel_rfl) (fun _ _ _ h => h) (Or.inl ⟨by rfl, fun w hSw => ?_⟩) hS ?_
  · go_split_ands
    go_simp
  try simp only [Act.put, List.setIfInBounds_toArray, List.set_cons_zero, List.set_cons_succ]
  refine wpAnyH_take (i := 11) (oi := { dst := some 56, op := Go.Op.pick (Go.Operand.tmp 53) (Go.Operand.tmp 55) (Go.Operand.const (Go.Value.bool false)), type := 4, pos := "law.go:249", after := #[{ on := 8, ground := Go.Ground.data }, { on := 10, ground := Go.Ground.data }], guard := none }) (v := .bool true) rfl (by kernel_rfl) (by kernel_rfl) (by kernel_rfl) (fun _ _ _ h => h) (Or.inl ⟨by rfl, fun w hSw => ?_⟩) hS ?_
  · go_split_ands
    go_simp
  try simp only [Act.put, List.setIfInBounds_toArray, List.set_cons_zero, List.set_cons_succ]
  refine wpAnyH_take (i := 12) (oi := { dst := some 57, op := Go.Op.move (Go.Operand.tmp 56), type := 4, pos := "law.go:249", after := #[{ on := 11, ground := Go.Ground.data }, { on := 8, ground := Go.Ground.chain }], guard := none }) (v := .bool true) rfl (by kernel_rfl) (by kernel_rfl) (by kernel_rfl) (fun _ _ _ h => h) (Or.inl ⟨by rfl, fun w hSw => ?_⟩) hS ?_
  · go_split_ands
    go_simp
  try simp only [Act.put, List.setIfInBounds_toArray, List.set_cons_zero, List.set_cons_succ]
  refine wpAnyH_ready (rs := [13]) (by kernel_rfl) (by simp) ?_
  refine AllReadyH.cons (o := { dst := some 58, op := Go.Op.call { callee := Go.Callee.value (Go.Operand.func 25), args := #[Go.Operand.const (Go.Value.pointer none)], argTypes := #[30] }, type := 3, pos := "law.go:249", after := #[{ on := 12, ground := Go.Ground.chain }, { on := 12, ground := Go.Ground.guard }], guard := some (12, true) }) rfl (fun K hK => ?_) AllReadyH.nil
  go_simp
  refine (len_root_nil _).mono ?_
  rintro e wA ⟨rfl, hBA⟩
  go_wp2_with fail
  have hSn := keep5 hS hBA
  refine hK.out _ _ hSn (fun _ => ?_)
  clear hK K hS
  try simp only [Act.put, List.setIfInBounds_toArray, List.set_cons_zero, List.set_cons_succ]
  have hS := hSn
  clear hSn
  have hB := hB.trans (hBA.mono hB.size)
  have hTn := hTn.below hBA
  have hTm := hTm.below hBA
  clear hBA
  refine wpAnyH_take (i := 14) (oi := { dst := some 59, op := Go.Op.binOp Go.BinOp.eql 3 (Go.Operand.tmp 58) (Go.Operand.const (Go.Value.int Go.IntKind.i64 0)) 3, type := 4, pos := "law.go:249", after := #[{ on := 13, ground := Go.Ground.data }, { on := 12, ground := Go.Ground.guard }], guard := some (12, true) }) (v := .bool true) rfl (by kernel_rfl) (by kernel_rfl) (by kernel_rfl) (fun _ _ _ h => h) (Or.inl ⟨by rfl, fun w hSw => ?_⟩) hS ?_
  · go_split_ands
    go_simp
  try simp only [Act.put, List.setIfInBounds_toArray, List.set_cons_zero, List.set_cons_succ]
  refine wpAnyH_take (i := 15) (oi := { dst := some 60, op := Go.Op.pick (Go.Operand.tmp 57) (Go.Operand.tmp 59) (Go.Operand.const (Go.Value.bool false)), type := 4, pos := "law.go:249", after := #[{ on := 12, ground := Go.Ground.data }, { on := 14, ground := Go.Ground.data }], guard := none }) (v := .bool true) rfl (by kernel_rfl) (by kernel_rfl) (by kernel_rfl) (fun _ _ _ h => h) (Or.inl ⟨by rfl, fun w hSw => ?_⟩) hS ?_
  · go_split_ands
    go_simp
  try simp only [Act.put, List.setIfInBounds_toArray, List.set_cons_zero, List.set_cons_succ]
  refine wpAnyH_take (i := 16) (oi := { dst := some 61, op := Go.Op.move (Go.Operand.tmp 60), type := 4, pos := "law.go:249", after := #[{ on := 15, ground := Go.Ground.data }, { on := 13, ground := Go.Ground.chain }], guard := none }) (v := .bool true) rfl (by kernel_rfl) (by kernel_rfl) (by kernel_rfl) (fun _ _ _ h => h) (Or.inl ⟨by rfl, fun w hSw => ?_⟩) hS ?_
  · go_split_ands
    go_simp
  try simp only [Act.put, List.setIfInBounds_toArray, List.set_cons_zero, List.set_cons_succ]
  refine wpAnyH_take (i := 17) (oi := { dst := some 62, op := Go.Op.load 26 (Go.Operand.tmp 2), type := 26, pos := "law.go:249", after := #[{ on := 16, ground := Go.Ground.guard }], guard := some (16, true) }) (v := .agg #[.int .u64 k0, .int .u64 k1, .int .u64 m]) rfl (by kernel_rfl) (by kernel_rfl) (by kernel_rfl) (fun _ _ _ h => h) (Or.inl ⟨by rfl, fun w hSw => ?_⟩) hS ?_
  · go_split_ands
    go_simp
  try simp only [Act.put, List.setIfInBounds_toArray, List.set_cons_zero, List.set_cons_succ]
  refine wpAnyH_take (i := 18) (oi := { dst := some 63, op := Go.Op.move (Go.Operand.tmp 7), type := 30, pos := "law.go:249", after := #[{ on := 16, ground := Go.Ground.guard }], guard := some (16, true) }) (v := .pointer (some ⟨bn, 0, none⟩)) rfl (by kernel_rfl) (by kernel_rfl) (by kernel_rfl) (fun _ _ _ h => h) (Or.inl ⟨by rfl, fun w hSw => ?_⟩) hS ?_
  · go_split_ands
    go_simp
  try simp only [Act.put, List.setIfInBounds_toArray, List.set_cons_zero, List.set_cons_succ]
  refine wpAnyH_take (i := 19) (oi := { dst := some 64, op := Go.Op.load 34 (Go.Operand.tmp 3), type := 34, pos := "law.go:249", after := #[{ on := 16, ground := Go.Ground.guard }], guard := some (16, true) }) (v := .agg #[.string pk, .string pu]) rfl (by kernel_rfl) (by kernel_rfl) (by kernel_rfl) (fun _ _ _ h => h) (Or.inl ⟨by rfl, fun w hSw => ?_⟩) hS ?_
  · go_split_ands
    go_simp
  try simp only [Act.put, List.setIfInBounds_toArray, List.set_cons_zero, List.set_cons_succ]
  refine wpAnyH_ready (rs := [20]) (by kernel_rfl) (by simp) ?_
  refine AllReadyH.cons (o := { dst := some 65, op := Go.Op.buildSlice 32 1 #[(0, Go.Operand.tmp 64)], type := 32, pos := "law.go:249", after := #[{ on := 19, ground := Go.Ground.data }, { on := 16, ground := Go.Ground.guard }], guard := some (16, true) }) rfl (fun K hK => ?_) AllReadyH.nil
  go_simp
  have hBl := (Below.refl _ wA).alloc (Nat.le_refl _) (.cells #[.string pk, .string pu] 45)
  have hnew := Blk.new wA 45 #[.string pk, .string pu]
  have hSn := keep5 hS hBl
  have hB := hB.alloc hB.size (.cells #[.string pk, .string pu] 45)
  have hTn := hTn.below hBl
  have hTm := hTm.below hBl
  refine hK.out _ _ hSn (fun _ => ?_)
  clear hK K hS hBl
  try simp only [Act.put, List.setIfInBounds_toArray, List.set_cons_zero, List.set_cons_succ]
  have hS := hSn
  clear hSn
  generalize wA.alloc (.cells #[.string pk, .string pu] 45) = wB at *
  generalize wA.heap.size = N5 at *
  refine wpAnyH_ready (rs := [21]) (by kernel_rfl) (by simp) ?_
  refine AllReadyH.cons (o := { dst := some 66, op := Go.Op.call { callee := Go.Callee.value (Go.Operand.func 18), args := #[Go.Operand.tmp 62, Go.Operand.tmp 63, Go.Operand.tmp 65], argTypes := #[26, 30, 32] }, type := 4, pos := "law.go:249", after := #[{ on := 17, ground := Go.Ground.data }, { on := 18, ground := Go.Ground.data }, { on := 20, ground := Go.Ground.data }, { on := 16, ground := Go.Ground.chain }, { on := 16, ground := Go.Ground.guard }], guard := some (16, true) }) rfl (fun K hK => ?_) AllReadyH.nil
  go_simp
  refine (trie_plain (A := some ⟨N5, 0, none⟩) (c := 1) hTn h0 h1 (rd_one hnew) (by simp) (by simpa using hsz)).mono ?_
  rintro e wC ⟨rfl, hBC⟩
  go_wp2_with fail
  have hSn := keep5 hS hBC
  refine hK.out _ _ hSn (fun _ => ?_)
  clear hK K hS
  try simp only [Act.put, List.setIfInBounds_toArray, List.set_cons_zero, List.set_cons_succ]
  have hS := hSn
  clear hSn
  have hB := hB.trans (hBC.mono hB.size)
  have hTm := hTm.below hBC
  clear hBC hTn hnew
  refine wpAnyH_take (i := 22) (oi := { dst := some 67, op := Go.Op.pick (Go.Operand.tmp 61) (Go.Operand.tmp 66) (Go.Operand.const (Go.Value.bool false)), type := 4, pos := "law.go:249", after := #[{ on := 16, ground := Go.Ground.data }, { on := 21, ground := Go.Ground.data }], guard := none }) (v := .bool true) rfl (by kernel_rfl) (by kernel_rfl) (by kernel_rfl) (fun _ _ _ h => h) (Or.inl ⟨by rfl, fun w hSw => ?_⟩) hS ?_
  · go_split_ands
    go_simp
  try simp only [Act.put, List.setIfInBounds_toArray, List.set_cons_zero, List.set_cons_succ]
  refine wpAnyH_take (i := 23) (oi := { dst := some 68, op := Go.Op.move (Go.Operand.tmp 67), type := 4, pos := "law.go:249", after := #[{ on := 22, ground := Go.Ground.data }, { on := 21, ground := Go.Ground.chain }], guard := none }) (v := .bool true) rfl (by kernel_rfl) (by kernel_rfl) (by kernel_rfl) (fun _ _ _ h => h) (Or.inl ⟨by rfl, fun w hSw => ?_⟩) hS ?_
  · go_split_ands
    go_simp
  try simp only [Act.put, List.setIfInBounds_toArray, List.set_cons_zero, List.set_cons_succ]
  refine wpAnyH_take (i := 24) (oi := { dst := some 69, op := Go.Op.load 26 (Go.Operand.tmp 2), type := 26, pos := "law.go:249", after := #[{ on := 23, ground := Go.Ground.guard }], guard := some (23, true) }) (v := .agg #[.int .u64 k0, .int .u64 k1, .int .u64 m]) rfl (by kernel_rfl) (by kernel_rfl) (by kernel_rfl) (fun _ _ _ h => h) (Or.inl ⟨by rfl, fun w hSw => ?_⟩) hS ?_
  · go_split_ands
    go_simp
  try simp only [Act.put, List.setIfInBounds_toArray, List.set_cons_zero, List.set_cons_succ]
  refine wpAnyH_take (i := 25) (oi := { dst := some 70, op := Go.Op.move (Go.Operand.tmp 9), type := 30, pos := "law.go:249", after := #[{ on := 23, ground := Go.Ground.guard }], guard := some (23, true) }) (v := .pointer (some ⟨bm, 0, none⟩)) rfl (by kernel_rfl) (by kernel_rfl) (by kernel_rfl) (fun _ _ _ h => h) (Or.inl ⟨by rfl, fun w hSw => ?_⟩) hS ?_
  · go_split_ands
    go_simp
  try simp only [Act.put, List.setIfInBounds_toArray, List.set_cons_zero, List.set_cons_succ]
  refine wpAnyH_ready (rs := [26]) (by kernel_rfl) (by simp) ?_
  refine AllReadyH.cons (o := { dst := some 71, op := Go.Op.call { callee := Go.Callee.value (Go.Operand.func 18), args := #[Go.Operand.tmp 69, Go.Operand.tmp 70, Go.Operand.const (Go.Value.slice none 0 0)], argTypes := #[26, 30, 32] }, type := 4, pos := "law.go:249", after := #[{ on := 24, ground := Go.Ground.data }, { on := 25, ground := Go.Ground.data }, { on := 23, ground := Go.Ground.chain }, { on := 23, ground := Go.Ground.guard }], guard := some (23, true) }) rfl (fun K hK => ?_) AllReadyH.nil
  go_simp
  refine (trie_plain (A := none) (c := 0) hTm h0 h1 (rd_nil _) (by simp) (by simp)).mono ?_
  rintro e wD ⟨rfl, hBD⟩
  go_wp2_with fail
  have hSn := keep5 hS hBD
  refine hK.out _ _ hSn (fun _ => ?_)
  clear hK K hS
  try simp only [Act.put, List.setIfInBounds_toArray, List.set_cons_zero, List.set_cons_succ]
  have hS := hSn
  clear hSn
  have hB := hB.trans (hBD.mono hB.size)
  clear hBD hTm
  refine wpAnyH_take (i := 27) (oi := { dst := some 72, op := Go.Op.pick (Go.Operand.tmp 68) (Go.Operand.tmp 71) (Go.Operand.const (Go.Value.bool false)), type := 4, pos := "law.go:249", after := #[{ on := 23, ground := Go.Ground.data }, { on := 26, ground := Go.Ground.data }], guard := none }) (v := .bool true) rfl (by kernel_rfl) (by kernel_rfl) (by kernel_rfl) (fun _ _ _ h => h) (Or.inl ⟨by rfl, fun w hSw => ?_⟩) hS ?_
  · go_split_ands
    go_simp
  try simp only [Act.put, List.setIfInBounds_toArray, List.set_cons_zero, List.set_cons_succ]
  refine wpAnyH_take (i := 28) (oi := { dst := some 73, op := Go.Op.move (Go.Operand.tmp 72), type := 4, pos := "law.go:249", after := #[{ on := 27, ground := Go.Ground.data }, { on := 26, ground := Go.Ground.chain }], guard := none }) (v := .bool true) rfl (by kernel_rfl) (by kernel_rfl) (by kernel_rfl) (fun _ _ _ h => h) (Or.inl ⟨by rfl, fun w hSw => ?_⟩) hS ?_
  · go_split_ands
    go_simp
  try simp only [Act.put, List.setIfInBounds_toArray, List.set_cons_zero, List.set_cons_succ]
  refine wpAnyH_take (i := 29) (oi := { dst := some 74, op := Go.Op.load 26 (Go.Operand.tmp 2), type := 26, pos := "law.go:249", after := #[{ on := 28, ground := Go.Ground.guard }], guard := some (28, true) }) (v := .agg #[.int .u64 k0, .int .u64 k1, .int .u64 m]) rfl (by kernel_rfl) (by kernel_rfl) (by kernel_rfl) (fun _ _ _ h => h) (Or.inl ⟨by rfl, fun w hSw => ?_⟩) hS ?_
  · go_split_ands
    go_simp
  try simp only [Act.put, List.setIfInBounds_toArray, List.set_cons_zero, List.set_cons_succ]
  refine wpAnyH_ready (rs := [30]) (by kernel_rfl) (by simp) ?_
  refine AllReadyH.cons (o := { dst := some 75, op := Go.Op.call { callee := Go.Callee.value (Go.Operand.func 10), args := #[], argTypes := #[] }, type := 30, pos := "law.go:249", after := #[{ on := 28, ground := Go.Ground.chain }, { on := 28, ground := Go.Ground.guard }], guard := some (28, true) }) rfl (fun K hK => ?_) AllReadyH.nil
  go_simp
  refine (empty_plain (base := w.heap.size) (w := wD) k0 k1 m hB.size).mono ?_
  rintro e wE ⟨be, rfl, hTe, hBE⟩
  go_wp2_with fail
  have hSn := keep5 hS hBE
  refine hK.out _ _ hSn (fun _ => ?_)
  clear hK K hS
  try simp only [Act.put, List.setIfInBounds_toArray, List.set_cons_zero, List.set_cons_succ]
  have hS := hSn
  clear hSn
  have hB := hB.trans (hBE.mono hB.size)
  clear hBE
  refine wpAnyH_ready (rs := [31]) (by kernel_rfl) (by simp) ?_
  refine AllReadyH.cons (o := { dst := some 76, op := Go.Op.call { callee := Go.Callee.value (Go.Operand.func 18), args := #[Go.Operand.tmp 74, Go.Operand.tmp 75, Go.Operand.const (Go.Value.slice none 0 0)], argTypes := #[26, 30, 32] }, type := 4, pos := "law.go:249", after := #[{ on := 29, ground := Go.Ground.data }, { on := 30, ground := Go.Ground.data }, { on := 30, ground := Go.Ground.chain }, { on := 28, ground := Go.Ground.guard }], guard := some (28, true) }) rfl (fun K hK => ?_) AllReadyH.nil
  go_simp
  refine (trie_plain (A := none) (c := 0) hTe h0 h1 (rd_nil _) (by simp) (by simp)).mono ?_
  rintro e wF ⟨rfl, hBF⟩
  go_wp2_with fail
  have hSn := keep5 hS hBF
  refine hK.out _ _ hSn (fun _ => ?_)
  clear hK K hS
  try simp only [Act.put, List.setIfInBounds_toArray, List.set_cons_zero, List.set_cons_succ]
  have hS := hSn
  clear hSn
  have hB := hB.trans (hBF.mono hB.size)
  clear hBF hTe
  refine wpAnyH_take (i := 32) (oi := { dst := some 77, op := Go.Op.pick (Go.Operand.tmp 73) (Go.Operand.tmp 76) (Go.Operand.const (Go.Value.bool false)), type := 4, pos := "law.go:249", after := #[{ on := 28, ground := Go.Ground.data }, { on := 31, ground := Go.Ground.data }], guard := none }) (v := .bool true) rfl (by kernel_rfl) (by kernel_rfl) (by kernel_rfl) (fun _ _ _ h => h) (Or.inl ⟨by rfl, fun w hSw => ?_⟩) hS ?_
  · go_split_ands
    go_simp
  try simp only [Act.put, List.setIfInBounds_toArray, List.set_cons_zero, List.set_cons_succ]
  refine wpAnyH_take (i := 33) (oi := { dst := some 4, op := Go.Op.assign (Go.Operand.tmp 77), type := 4, pos := "law.go:249", after := #[{ on := 32, ground := Go.Ground.data }, { on := 31, ground := Go.Ground.chain }, { on := 0, ground := Go.Ground.phase }, { on := 1, ground := Go.Ground.phase }, { on := 2, ground := Go.Ground.phase }, { on := 3, ground := Go.Ground.phase }, { on := 4, ground := Go.Ground.phase }, { on := 5, ground := Go.Ground.phase }, { on := 6, ground := Go.Ground.phase }, { on := 7, ground := Go.Ground.phase }, { on := 8, ground := Go.Ground.phase }, { on := 9, ground := Go.Ground.phase }, { on := 10, ground := Go.Ground.phase }, { on := 11, ground := Go.Ground.phase }, { on := 12, ground := Go.Ground.phase }, { on := 13, ground := Go.Ground.phase }, { on := 14, ground := Go.Ground.phase }, { on := 15, ground := Go.Ground.phase }, { on := 16, ground := Go.Ground.phase }, { on := 17, ground := Go.Ground.phase }, { on := 18, ground := Go.Ground.phase }, { on := 19, ground := Go.Ground.phase }, { on := 20, ground := Go.Ground.phase }, { on := 21, ground := Go.Ground.phase }, { on := 22, ground := Go.Ground.phase }, { on := 23, ground := Go.Ground.phase }, { on := 24, ground := Go.Ground.phase }, { on := 25, ground := Go.Ground.phase }, { on := 26, ground := Go.Ground.phase }, { on := 27, ground := Go.Ground.phase }, { on := 28, ground := Go.Ground.phase }, { on := 29, ground := Go.Ground.phase }, { on := 30, ground := Go.Ground.phase }, { on := 31, ground := Go.Ground.phase }, { on := 32, ground := Go.Ground.phase }], guard := none }) (v := .bool true) rfl (by kernel_rfl) (by kernel_rfl) (by kernel_rfl) (fun _ _ _ h => h) (Or.inl ⟨by rfl, fun w hSw => ?_⟩) hS ?_
  · go_split_ands
    go_simp
  try simp only [Act.put, List.setIfInBounds_toArray, List.set_cons_zero, List.set_cons_succ]
  refine wpAnyH_done (by kernel_rfl) ?_ _

  go_wp2_with fail
  go_ret
  exact ⟨rfl, hB⟩

/-! ### THE ROW's STEP -/
set_option maxRecDepth 100000 in
theorem lifted (os : Os) (started : os.Started) (H : Type) (enc : TypeId × Value → H) :
    ReturnsInHanded {} Tryz.checked os 7 .any (Rows.champNilSpec.pre6 enc Tryz.prog Tryz.f7 Rows.champNilRow.domain false) (Rows.champNilSpec.post enc Tryz.prog Tryz.f7 false true false false) := by
  refine returnsInHanded_of_change (C := Tryz.checked) own started (by kernel_rfl) Tryz.func7
    (ChangeSpec.witness6 (enc := enc) (C := Tryz.checked) false ⟨#[], #[.agg #[.int .u64 0, .int .u64 0, .int .u64 0], .agg #[.string ByteArray.empty, .string ByteArray.empty]], []⟩ 8 (by kernel_rfl) (by kernel_rfl) (by kernel_rfl) (by kernel_rfl)) ?_
  intro W base args ds gs before hval0 hW hcnd _
  have hval : ∀ (j : Nat) t v, Tryz.f7.params[j]? = some t → args[j]? = some v → Value.okWide Tryz.prog W .any base t v := hval0
  have hW' := hW
  obtain ⟨p, q, hA0, hV, rfl, hfz, hnd⟩ := hW
  have hA : DataW.TrodAll enc Tryz.prog W 0 (fun _ => true) true Tryz.f7.params.toList args.toList ds p := hA0
  rw [Tryz.params7] at hA hval
  obtain ⟨v0, vs0, d0, ds0, p0, q0, hargs, rfl, rfl, h0, r0⟩ := trodAll_cons hA
  obtain ⟨v1, vs1, d1, ds1, p1, q1, rfl, rfl, rfl, h1, r1⟩ := trodAll_cons r0
  obtain ⟨rfl, rfl, rfl⟩ := trodAll_nil r1
  obtain rfl : args = #[v0, v1] := by cases args; simp_all
  obtain ⟨rfl, rfl⟩ := trodVars_none hV
  have k0 := h0
  have lt0 : ∀ x ∈ p0, x.block < W.heap.size := by obtain ⟨m, hm⟩ := k0; exact DataW.trod_lt m _ _ _ hm
  obtain ⟨x0, y0, m0, rfl, u0, t0, r0_⟩ := open_hasher (hval 0 26 v0 rfl rfl) h0
  have k1 := h1
  have lt1 : ∀ x ∈ p1, x.block < W.heap.size := by obtain ⟨m, hm⟩ := k1; exact DataW.trod_lt m _ _ _ hm
  obtain ⟨x1, y1, rfl, s1⟩ := open_pair (hval 1 34 v1 rfl rfl) h1
  clear hA0 hval0
  refine (walk x0 y0 m0 x1 y1 W u0 t0).mono fun e W' ⟨he, bel⟩ => ?_
  subst he
  exact ⟨_, rfl, _, _, _, [], _, [], hW', trodAll_mk1 (shut_bool Tryz.underlying4 _), (trodAll_cons_mk (Below.trod laidOut (by kernel_rfl) (of_decide_eq_true (by kernel_rfl)) k0 bel lt0) (trodAll_cons_mk (Below.trod laidOut (by kernel_rfl) (of_decide_eq_true (by kernel_rfl)) k1 bel lt1) trodAll_mk0)), rfl, bel.frame _, fun h => by cases h⟩

theorem over : Rows.champNilRow.holds Tryz.pinned (OpenSpec.ofChange Rows.champNilSpec) :=
  OpenClaim.holds_of_wide 7 Tryz.f7 rfl rfl rfl rfl rfl rfl rfl ⟨rfl, rfl, rfl, rfl, rfl⟩ rfl rfl rfl rfl rfl (by kernel_rfl) Tryz.func7 (by kernel_rfl)
    (of_decide_eq_true (by kernel_rfl)) (by unfold Func.isWrapper; first | (rw [if_pos (by decide +kernel)]; kernel_rfl) | (rw [if_neg (by decide +kernel)]; exact ⟨rfl, rfl⟩))
    (fun os started H enc _ => lifted os started H enc)

theorem proved : Rows.ChampNilSaid := over
#print axioms proved
end Go.Proofs.YtfmbikmpobieoaaGreat.champNil
