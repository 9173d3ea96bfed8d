/- The law's 'made'. -/
import Derived.Test.YtgldgdpgbfejmaaMM
namespace Go.Proofs.Ytgldgdpgbfejmaa
open Go.RowKit Go.Lib Go.Conc
set_option linter.unusedVariables false
set_option linter.unusedSimpArgs false
theorem MG.drew {base : Nat} {w : World} {wb p c xb b0 b1 n : Nat} {lw tw tv Nv Lw lvV : Value} {ts ts2 : List (Option Nat)} {lv : List Bool} (h : MG base w wb p c xb b0 b1 lw tw tv Nv Lw lvV n ts ts2 lv) : MG base w.drew wb p c xb b0 b1 lw tw tv Nv Lw lvV n ts ts2 lv :=
  have hk : Keep [] w w.drew := Keep.of_below (Below.refl _ w).drew
  ⟨h.b36, h.b89, h.ge, own_keep h.tr hk (by simp), own_keep h.lr hk (by simp), h.rest.keep hk (by simp), h.base_le⟩
theorem blk_lt {w : World} {g : Nat} {o : Obj} (h : w.heap[g]? = some o) : g < w.heap.size := by
  rcases Nat.lt_or_ge g w.heap.size with e | e
  · exact e
  · rw [Array.getElem?_eq_none e] at h; cases h
theorem zsz_bool : (Value.cells (.bool false)).size = 1 := by simp [Value.cells]
theorem info64m : (Try.prog.info? 64).map (fun i => (i.zero, i.size, i.bytes)) = some (some (.pointer none), 1, 8) := by kernel_rfl
theorem info4m : (Try.prog.info? 4).map (fun i => (i.zero, i.size, i.bytes)) = some (some (.bool false), 1, 1) := by kernel_rfl
theorem lv0_succ (i : Nat) : lv0 (i + 1) = lv0 i ++ [true] := by simp [lv0, List.replicate_succ']
theorem upto4_drop (i : Nat) (h : i < 4) : (upto 4).drop i = (i + 1) :: (upto 4).drop (i + 1) := by
  rcases (show i = 0 ∨ i = 1 ∨ i = 2 ∨ i = 3 by omega) with rfl | rfl | rfl | rfl <;> rfl
def MadePost (base : Nat) (w : World) (e : Ending) (w' : World) : Prop :=
  ∃ wb p c xb b0 b1 lw tw Nv Lv ts, e = .returned (.pointer (some ⟨wb, 0, none⟩)) ∧ Mi base w' wb p c xb b0 b1 lw tw Nv Lv 4 ts ∧ Below base w w'
set_option maxRecDepth 1000000 in
set_option maxHeartbeats 8000000 in
theorem madeMid_any (base wb p c xb b0 b1 : Nat) (lw tw0 Nv Lv0 : Value) (w0 wc : World) (h0 : Mi base wc wb p c xb b0 b1 lw tw0 Nv Lv0 0 [none]) (hB0 : Below base w0 wc) (hb0 : base ≤ w0.heap.size) (x2 x3 x4 x5 x6 x7 x8 x9 x10 x11 x12 x13 x14 x15 x16 x17 x18 x19 x20 x21 x22 x23 x24 x25 x26 x27 x28 x29 x30 x31 x32 x33 x34 x35 x36 x37 x38 x39 x40 x41 x42 x43 x44 x45 x46 x47 x48 x49 x50 x51 x52 x53 x54 x55 x56 x57 x58 x59 : Value) :
    Code.wp Try.prog madeMid (bodyPost Try.prog Try.f13 (MadePost base w0)) ⟨#[.pointer none, .pointer (some ⟨wb, 0, none⟩), x2, x3, x4, x5, x6, x7, x8, x9, x10, x11, x12, x13, x14, x15, x16, x17, x18, x19, x20, x21, x22, x23, x24, x25, x26, x27, x28, x29, x30, x31, x32, x33, x34, x35, x36, x37, x38, x39, x40, x41, x42, x43, x44, x45, x46, x47, x48, x49, x50, x51, x52, x53, x54, x55, x56, x57, x58, x59], []⟩ wc := by
  obtain ⟨i64, hi64, hz640, hz641, hz642⟩ := info_parts info64m
  obtain ⟨i4, hi4, hz40, hz41, hz42⟩ := info_parts info4m
  simp only []
  conv => arg 2; whnf
  go_wp2_with fail
  go_loopw [23] (fun vi wr => ∃ (i : Nat) (tw Lv : Value) (ts : List (Option Nat)), i ≤ 4 ∧ vi = .int .i64 i ∧ Mi base wr wb p c xb b0 b1 lw tw Nv Lv i ts ∧ Below base w0 wr) (fun vi wr => 4 - (intOf vi).toNat)
  case atStart => exact ⟨0, tw0, Lv0, [none], by omega, rfl, h0, hB0⟩
  case round =>
    clear h0 hB0
    obtain ⟨i, tw, Lv, ts, hi, rfl, hM, hB⟩ := hrel
    by_cases hlt : i < 4
    · have c2 := hM.blk.cell 2
      simp only [List.getElem?_toArray, List.getElem?_cons_succ, List.getElem?_cons_zero] at c2
      have hP := hM.pool
      rw [upto4_drop i hlt] at hP
      have tk := take_is p c 4 (i : Int) (i + 1) ((upto 4).drop (i + 1)) wr hP (by omega)
      have hbr := Nat.le_trans hb0 hB.size
      have HM := Lib.hid hM
      have HB := Lib.hid hB
      have B0 : (i : Int) < 4 := by omega
      have B2 : IntKind.i64.wrap ((i : Int) + 1) = ((i + 1 : Nat) : Int) := by rw [IntWalk.i64_in _ (by omega)]; omega
      unfold at0 at tk c2
      clear hP hM hB
      go_upto_region 5 with (fail)
      go_wp2_with fail
      refine tk.mono ?_
      rintro e w6 ⟨t, rfl, hP6, hT6, ht6, hk6⟩
      unfold at0
      have hG := HM.out.taken hP6 hT6 (Nat.le_trans hbr ht6) hk6 hbr
      have hk : Below base w0 w6 := HB.out.trans ⟨hk6.all.os, hk6.all.tape, hk6.all.output, hk6.all.size, fun b hb => hk6.block b (by omega) fun hm => by
        have := HM.out.ge
        simp only [List.mem_cons, List.not_mem_nil, or_false] at hm
        omega⟩
      have hlen : ts.length ≤ 5 := by rw [HM.out.len]; omega
      have HLV := Lib.hid (lv0_succ i)
      have hll : (lv0 i).length ≤ 5 := by simp [lv0]; omega
      clear tk hP6 hT6 hk6 HM HB c2
      go_upto_region 6 with (fail)
      refine wp_region_late (S := (fun w' : World => w'.cell? ⟨wb, 1, none⟩ = some tw ∧ w'.cell? ⟨wb, 3, none⟩ = some (.pointer (some ⟨xb, 0, none⟩)) ∧ w'.cell? ⟨xb, 1, none⟩ = some Lv)) (st := 23) (by kernel_rfl) ?_
      have hG2 : MG base w6.drew wb p c xb b0 b1 lw tw tw Nv Lv Lv (i + 1) ts (ts ++ [some t]) (lv0 i) := hG.drew
      have hk2 : Below base w0 w6.drew := hk.drew
      clear hG hk
      generalize w6.drew = W at *
      have hG := hG2
      have hk := hk2
      have hS := hG.cells.1
      clear hG2 hk2
      refine wpAnyL_take0 (i := 0) (oi := { dst := some 33, op := Go.Op.move (Go.Operand.tmp 1), type := 24, pos := "law.go:43", after := #[], guard := none }) (v := .pointer (some ⟨wb, 0, none⟩)) rfl (by kernel_rfl) (by kernel_rfl) (by kernel_rfl) (by kernel_rfl) (fun _ _ _ h => h) hS (Or.inl ⟨by rfl, fun w hSw => ?_⟩) ?_
      · go_split_ands
        go_simp
      try simp only [Act.put, List.setIfInBounds_toArray, List.set_cons_zero, List.set_cons_succ]
      refine wpAnyL_take0 (i := 1) (oi := { dst := some 34, op := Go.Op.move (Go.Operand.tmp 1), type := 24, pos := "law.go:43", after := #[], guard := none }) (v := .pointer (some ⟨wb, 0, none⟩)) rfl (by kernel_rfl) (by kernel_rfl) (by kernel_rfl) (by kernel_rfl) (fun _ _ _ h => h) hS (Or.inl ⟨by rfl, fun w hSw => ?_⟩) ?_
      · go_split_ands
        go_simp
      try simp only [Act.put, List.setIfInBounds_toArray, List.set_cons_zero, List.set_cons_succ]
      refine wpAnyL_take0 (i := 2) (oi := { dst := some 35, op := Go.Op.nilCheck (Go.Operand.tmp 34), type := 0, pos := "law.go:43", after := #[{ on := 1, ground := Go.Ground.data }], guard := none }) (v := .pointer (some ⟨wb, 0, none⟩)) rfl (by kernel_rfl) (by kernel_rfl) (by kernel_rfl) (by kernel_rfl) (fun _ _ _ h => h) hS (Or.inl ⟨by rfl, fun w hSw => ?_⟩) ?_
      · go_split_ands
        go_simp
      try simp only [Act.put, List.setIfInBounds_toArray, List.set_cons_zero, List.set_cons_succ]
      refine wpAnyL_take0 (i := 3) (oi := { dst := some 36, op := Go.Op.fieldAddr 36 (Go.Operand.tmp 35) 3, type := 0, pos := "law.go:43", after := #[{ on := 2, ground := Go.Ground.data }], guard := none }) (v := .pointer (some ⟨wb, 3, none⟩)) rfl (by kernel_rfl) (by kernel_rfl) (by kernel_rfl) (by kernel_rfl) (fun _ _ _ h => h) hS (Or.inl ⟨by rfl, fun w hSw => ?_⟩) ?_
      · go_split_ands
        go_simp
      try simp only [Act.put, List.setIfInBounds_toArray, List.set_cons_zero, List.set_cons_succ]
      refine wpAnyL_take (i := 4) (oi := { dst := some 37, op := Go.Op.load 34 (Go.Operand.tmp 36), type := 34, pos := "law.go:43", after := #[{ on := 3, ground := Go.Ground.data }], guard := none }) (v := .pointer (some ⟨xb, 0, none⟩)) rfl (by kernel_rfl) (by kernel_rfl) (by kernel_rfl) (by kernel_rfl) (fun _ _ _ h => h) hS (Or.inl ⟨by rfl, fun w hSw => ?_⟩) ?_
      · go_split_ands
        go_simp
      try simp only [Act.put, List.setIfInBounds_toArray, List.set_cons_zero, List.set_cons_succ]
      refine wpAnyL_take0 (i := 5) (oi := { dst := some 38, op := Go.Op.move (Go.Operand.tmp 1), type := 24, pos := "law.go:43", after := #[], guard := none }) (v := .pointer (some ⟨wb, 0, none⟩)) rfl (by kernel_rfl) (by kernel_rfl) (by kernel_rfl) (by kernel_rfl) (fun _ _ _ h => h) hS (Or.inl ⟨by rfl, fun w hSw => ?_⟩) ?_
      · go_split_ands
        go_simp
      try simp only [Act.put, List.setIfInBounds_toArray, List.set_cons_zero, List.set_cons_succ]
      refine wpAnyL_take0 (i := 6) (oi := { dst := some 39, op := Go.Op.nilCheck (Go.Operand.tmp 38), type := 0, pos := "law.go:43", after := #[{ on := 5, ground := Go.Ground.data }], guard := none }) (v := .pointer (some ⟨wb, 0, none⟩)) rfl (by kernel_rfl) (by kernel_rfl) (by kernel_rfl) (by kernel_rfl) (fun _ _ _ h => h) hS (Or.inl ⟨by rfl, fun w hSw => ?_⟩) ?_
      · go_split_ands
        go_simp
      try simp only [Act.put, List.setIfInBounds_toArray, List.set_cons_zero, List.set_cons_succ]
      refine wpAnyL_take0 (i := 7) (oi := { dst := some 40, op := Go.Op.fieldAddr 36 (Go.Operand.tmp 39) 1, type := 0, pos := "law.go:43", after := #[{ on := 6, ground := Go.Ground.data }], guard := none }) (v := .pointer (some ⟨wb, 1, none⟩)) rfl (by kernel_rfl) (by kernel_rfl) (by kernel_rfl) (by kernel_rfl) (fun _ _ _ h => h) hS (Or.inl ⟨by rfl, fun w hSw => ?_⟩) ?_
      · go_split_ands
        go_simp
      try simp only [Act.put, List.setIfInBounds_toArray, List.set_cons_zero, List.set_cons_succ]
      refine wpAnyL_take (i := 8) (oi := { dst := some 41, op := Go.Op.load 32 (Go.Operand.tmp 40), type := 32, pos := "law.go:43", after := #[{ on := 7, ground := Go.Ground.data }], guard := none }) (v := tw) rfl (by kernel_rfl) (by kernel_rfl) (by kernel_rfl) (by kernel_rfl) (fun _ _ _ h => h) hS (Or.inl ⟨by rfl, fun w hSw => ?_⟩) ?_
      · go_split_ands
        go_simp
      try simp only [Act.put, List.setIfInBounds_toArray, List.set_cons_zero, List.set_cons_succ]
      refine wpAnyL_take0 (i := 9) (oi := { dst := some 42, op := Go.Op.move (Go.Operand.tmp 2), type := 64, pos := "law.go:43", after := #[], guard := none }) (v := .pointer (some ⟨t, 0, none⟩)) rfl (by kernel_rfl) (by kernel_rfl) (by kernel_rfl) (by kernel_rfl) (fun _ _ _ h => h) hS (Or.inl ⟨by rfl, fun w hSw => ?_⟩) ?_
      · go_split_ands
        go_simp
      try simp only [Act.put, List.setIfInBounds_toArray, List.set_cons_zero, List.set_cons_succ]
      refine wpAnyL_take0 (i := 12) (oi := { dst := some 45, op := Go.Op.move (Go.Operand.tmp 1), type := 24, pos := "law.go:43", after := #[], guard := none }) (v := .pointer (some ⟨wb, 0, none⟩)) rfl (by kernel_rfl) (by kernel_rfl) (by kernel_rfl) (by kernel_rfl) (fun _ _ _ h => h) hS (Or.inl ⟨by rfl, fun w hSw => ?_⟩) ?_
      · go_split_ands
        go_simp
      try simp only [Act.put, List.setIfInBounds_toArray, List.set_cons_zero, List.set_cons_succ]
      refine wpAnyL_take0 (i := 13) (oi := { dst := some 46, op := Go.Op.nilCheck (Go.Operand.tmp 45), type := 0, pos := "law.go:43", after := #[{ on := 12, ground := Go.Ground.data }], guard := none }) (v := .pointer (some ⟨wb, 0, none⟩)) rfl (by kernel_rfl) (by kernel_rfl) (by kernel_rfl) (by kernel_rfl) (fun _ _ _ h => h) hS (Or.inl ⟨by rfl, fun w hSw => ?_⟩) ?_
      · go_split_ands
        go_simp
      try simp only [Act.put, List.setIfInBounds_toArray, List.set_cons_zero, List.set_cons_succ]
      refine wpAnyL_take0 (i := 14) (oi := { dst := some 47, op := Go.Op.fieldAddr 36 (Go.Operand.tmp 46) 3, type := 0, pos := "law.go:43", after := #[{ on := 13, ground := Go.Ground.data }], guard := none }) (v := .pointer (some ⟨wb, 3, none⟩)) rfl (by kernel_rfl) (by kernel_rfl) (by kernel_rfl) (by kernel_rfl) (fun _ _ _ h => h) hS (Or.inl ⟨by rfl, fun w hSw => ?_⟩) ?_
      · go_split_ands
        go_simp
      try simp only [Act.put, List.setIfInBounds_toArray, List.set_cons_zero, List.set_cons_succ]
      refine wpAnyL_take (i := 15) (oi := { dst := some 48, op := Go.Op.load 34 (Go.Operand.tmp 47), type := 34, pos := "law.go:43", after := #[{ on := 14, ground := Go.Ground.data }], guard := none }) (v := .pointer (some ⟨xb, 0, none⟩)) rfl (by kernel_rfl) (by kernel_rfl) (by kernel_rfl) (by kernel_rfl) (fun _ _ _ h => h) hS (Or.inl ⟨by rfl, fun w hSw => ?_⟩) ?_
      · go_split_ands
        go_simp
      try simp only [Act.put, List.setIfInBounds_toArray, List.set_cons_zero, List.set_cons_succ]
      refine wpAnyL_take0 (i := 16) (oi := { dst := some 49, op := Go.Op.nilCheck (Go.Operand.tmp 48), type := 0, pos := "law.go:43", after := #[{ on := 15, ground := Go.Ground.data }], guard := none }) (v := .pointer (some ⟨xb, 0, none⟩)) rfl (by kernel_rfl) (by kernel_rfl) (by kernel_rfl) (by kernel_rfl) (fun _ _ _ h => h) hS (Or.inl ⟨by rfl, fun w hSw => ?_⟩) ?_
      · go_split_ands
        go_simp
      try simp only [Act.put, List.setIfInBounds_toArray, List.set_cons_zero, List.set_cons_succ]
      refine wpAnyL_take0 (i := 17) (oi := { dst := some 50, op := Go.Op.fieldAddr 89 (Go.Operand.tmp 49) 1, type := 0, pos := "law.go:43", after := #[{ on := 16, ground := Go.Ground.data }], guard := none }) (v := .pointer (some ⟨xb, 1, none⟩)) rfl (by kernel_rfl) (by kernel_rfl) (by kernel_rfl) (by kernel_rfl) (fun _ _ _ h => h) hS (Or.inl ⟨by rfl, fun w hSw => ?_⟩) ?_
      · go_split_ands
        go_simp
      try simp only [Act.put, List.setIfInBounds_toArray, List.set_cons_zero, List.set_cons_succ]
      refine wpAnyL_take (i := 18) (oi := { dst := some 51, op := Go.Op.load 87 (Go.Operand.tmp 50), type := 87, pos := "law.go:43", after := #[{ on := 17, ground := Go.Ground.data }], guard := none }) (v := Lv) rfl (by kernel_rfl) (by kernel_rfl) (by kernel_rfl) (by kernel_rfl) (fun _ _ _ h => h) hS (Or.inl ⟨by rfl, fun w hSw => ?_⟩) ?_
      · go_split_ands
        go_simp
      try simp only [Act.put, List.setIfInBounds_toArray, List.set_cons_zero, List.set_cons_succ]
      refine wpAnyL_ready (rs := [10, 19]) (by kernel_rfl) (by simp) ?_
      refine AllReadyL.cons (o := { dst := some 43, op := Go.Op.buildSlice 32 1 #[(0, Go.Operand.tmp 42)], type := 32, pos := "law.go:43", after := #[{ on := 9, ground := Go.Ground.data }], guard := none }) rfl (fun K hK => ?_) ?_
      · go_simp
        have hG2 := hG.alloc (.cells #[.pointer (some ⟨t, 0, none⟩)] 64)
        have hk2 := hk.alloc hG.base_le (.cells #[.pointer (some ⟨t, 0, none⟩)] 64)
        have n10 : (W.alloc (.cells #[.pointer (some ⟨t, 0, none⟩)] 64)).heap[W.heap.size]? = some (.cells #[.pointer (some ⟨t, 0, none⟩)] 64 (0, 0)) := heap_alloc_new W _
        skip
        refine hK.out _ _ (fun _ => hG2.cells.1) ?_
        clear hK K hS hG hk
        try simp only [Act.put, List.setIfInBounds_toArray, List.set_cons_zero, List.set_cons_succ]
        generalize W.alloc (.cells #[.pointer (some ⟨t, 0, none⟩)] 64) = Wa at *
        generalize W.heap.size = B10 at *
        have hG := hG2
        have hk := hk2
        have hS := hG.cells.1
        clear hG2 hk2
        refine wpAnyL_ready (rs := [11, 19]) (by kernel_rfl) (by simp) ?_
        refine AllReadyL.cons (o := { dst := some 44, op := Go.Op.call { callee := Go.Callee.builtin Go.Builtin.append, args := #[Go.Operand.tmp 41, Go.Operand.tmp 43], argTypes := #[32, 32] }, type := 32, pos := "law.go:43", after := #[{ on := 8, ground := Go.Ground.data }, { on := 10, ground := Go.Ground.data }], guard := none }) rfl (fun K hK => ?_) ?_
        · refine step_append_lies _ (by rfl) _ _ _ (by rfl) base 64 i64 _ 1 8 Try.underlying32 hi64 hz640 hz641 hz642 zsz_kids (by decide) tw ts.length (ts.map pt) (by rfl) hG.tr ⟨B10, 0, none⟩ 1 1 [.pointer (some ⟨t, 0, none⟩)] (by rfl) rfl (World.news_of_block n10) (by simp [Value.oneCell']) (by omega) (by unfold maxLen; omega) (by omega) hG.base_le _ rfl ?_
          intro g1 cap1 W2 hown1 hgrow1 hat1 hlt1
          have hG2 := hG.grownT (ts' := ts ++ [some t]) hgrow1 (by rw [List.length_append, List.map_append]; exact hown1)
          have hk2 := hk.grown hgrow1 hG.base_le (own_ge hG.tr)
          skip
          refine hK.out _ _ (fun _ => hG2.cells.1) ?_
          clear hK K hS hgrow1 hat1 hlt1 hown1 n10 hG hk
          try simp only [Act.put, List.setIfInBounds_toArray, List.set_cons_zero, List.set_cons_succ]
          have hG := hG2
          have hk := hk2
          have hS := hG.cells.1
          clear hG2 hk2
          refine wpAnyL_ready (rs := [19]) (by kernel_rfl) (by simp) ?_
          refine AllReadyL.cons (o := { dst := some 52, op := Go.Op.buildSlice 87 1 #[(0, Go.Operand.const (Go.Value.bool true))], type := 87, pos := "law.go:43", after := #[], guard := none }) rfl (fun K hK => ?_) AllReadyL.nil
          go_simp
          have hG2 := hG.alloc (.cells #[.bool true] 4)
          have hk2 := hk.alloc hG.base_le (.cells #[.bool true] 4)
          have n19 : (W2.alloc (.cells #[.bool true] 4)).heap[W2.heap.size]? = some (.cells #[.bool true] 4 (0, 0)) := heap_alloc_new W2 _
          skip
          refine hK.out _ _ (fun _ => hG2.cells.1) ?_
          clear hK K hS hG hk
          try simp only [Act.put, List.setIfInBounds_toArray, List.set_cons_zero, List.set_cons_succ]
          generalize W2.alloc (.cells #[.bool true] 4) = Wb at *
          generalize W2.heap.size = B19 at *
          have hG := hG2
          have hk := hk2
          have hS := hG.cells.1
          clear hG2 hk2
          refine wpAnyL_ready (rs := [20]) (by kernel_rfl) (by simp) ?_
          refine AllReadyL.cons (o := { dst := some 53, op := Go.Op.call { callee := Go.Callee.builtin Go.Builtin.append, args := #[Go.Operand.tmp 51, Go.Operand.tmp 52], argTypes := #[87, 87] }, type := 87, pos := "law.go:43", after := #[{ on := 18, ground := Go.Ground.data }, { on := 19, ground := Go.Ground.data }, { on := 11, ground := Go.Ground.chain }], guard := none }) rfl (fun K hK => ?_) AllReadyL.nil
          refine step_append_lies _ (by rfl) _ _ _ (by rfl) base 4 i4 _ 1 1 Try.underlying87 hi4 hz40 hz41 hz42 zsz_bool (by decide) Lv (lv0 i).length (boolsV (lv0 i)) (by rfl) hG.lr ⟨B19, 0, none⟩ 1 1 [.bool true] (by rfl) rfl (World.news_of_block n19) (by simp [Value.oneCell']) (by omega) (by unfold maxLen; omega) (by omega) hG.base_le _ rfl ?_
          intro g2 cap2 W3 hown2 hgrow2 hat2 hlt2
          have hG2 := hG.grownL (lv' := lv0 (i + 1)) hgrow2 (by rw [HLV.out, List.length_append, boolsV, List.map_append]; exact hown2)
          have hk2 := hk.grown hgrow2 hG.base_le (own_ge hG.lr)
          refine hK.out _ _ (fun _ => hG2.cells.1) ?_
          clear hK K hS hgrow2 hat2 hlt2 hown2 n19 hG hk
          try simp only [Act.put, List.setIfInBounds_toArray, List.set_cons_zero, List.set_cons_succ]
          have hG := hG2
          have hk := hk2
          have hS := hG.cells.1
          clear hG2 hk2
          refine wpAnyL_ready (rs := [21]) (by kernel_rfl) (by simp) ?_
          refine AllReadyL.cons (o := { dst := some 54, op := Go.Op.nilCheck (Go.Operand.tmp 33), type := 0, pos := "law.go:43", after := #[{ on := 0, ground := Go.Ground.data }, { on := 0, ground := Go.Ground.phase }, { on := 1, ground := Go.Ground.textOnly Go.Departure.lateStores }, { on := 2, ground := Go.Ground.textOnly Go.Departure.lateStoresUnsure }, { on := 3, ground := Go.Ground.textOnly Go.Departure.lateStoresUnsure }, { on := 4, ground := Go.Ground.phase }, { on := 5, ground := Go.Ground.phase }, { on := 6, ground := Go.Ground.phase }, { on := 7, ground := Go.Ground.phase }, { on := 8, ground := Go.Ground.phase }, { on := 9, ground := Go.Ground.phase }, { on := 10, ground := Go.Ground.phase }, { on := 11, ground := Go.Ground.phase }, { on := 12, ground := Go.Ground.textOnly Go.Departure.lateStores }, { on := 13, ground := Go.Ground.textOnly Go.Departure.lateStoresUnsure }, { on := 14, ground := Go.Ground.textOnly Go.Departure.lateStoresUnsure }, { on := 15, ground := Go.Ground.phase }, { on := 16, ground := Go.Ground.textOnly Go.Departure.lateStoresUnsure }, { on := 17, ground := Go.Ground.textOnly Go.Departure.lateStoresUnsure }, { on := 18, ground := Go.Ground.phase }, { on := 19, ground := Go.Ground.textOnly Go.Departure.lateStoresUnsure }, { on := 20, ground := Go.Ground.phase }], guard := none }) rfl (fun K hK => ?_) AllReadyL.nil
          go_simp
          refine hK.out _ _ (fun _ => hS) ?_
          clear hK K
          try simp only [Act.put, List.setIfInBounds_toArray, List.set_cons_zero, List.set_cons_succ]
          refine wpAnyL_ready (rs := [22]) (by kernel_rfl) (by simp) ?_
          refine AllReadyL.cons (o := { dst := some 55, op := Go.Op.fieldAddr 36 (Go.Operand.tmp 54) 1, type := 0, pos := "law.go:43", after := #[{ on := 21, ground := Go.Ground.data }, { on := 0, ground := Go.Ground.phase }, { on := 1, ground := Go.Ground.textOnly Go.Departure.lateStores }, { on := 2, ground := Go.Ground.textOnly Go.Departure.lateStoresUnsure }, { on := 3, ground := Go.Ground.textOnly Go.Departure.lateStoresUnsure }, { on := 4, ground := Go.Ground.phase }, { on := 5, ground := Go.Ground.phase }, { on := 6, ground := Go.Ground.phase }, { on := 7, ground := Go.Ground.phase }, { on := 8, ground := Go.Ground.phase }, { on := 9, ground := Go.Ground.phase }, { on := 10, ground := Go.Ground.phase }, { on := 11, ground := Go.Ground.phase }, { on := 12, ground := Go.Ground.textOnly Go.Departure.lateStores }, { on := 13, ground := Go.Ground.textOnly Go.Departure.lateStoresUnsure }, { on := 14, ground := Go.Ground.textOnly Go.Departure.lateStoresUnsure }, { on := 15, ground := Go.Ground.phase }, { on := 16, ground := Go.Ground.textOnly Go.Departure.lateStoresUnsure }, { on := 17, ground := Go.Ground.textOnly Go.Departure.lateStoresUnsure }, { on := 18, ground := Go.Ground.phase }, { on := 19, ground := Go.Ground.textOnly Go.Departure.lateStoresUnsure }, { on := 20, ground := Go.Ground.phase }], guard := none }) rfl (fun K hK => ?_) AllReadyL.nil
          go_simp
          refine hK.out _ _ (fun _ => hS) ?_
          clear hK K
          try simp only [Act.put, List.setIfInBounds_toArray, List.set_cons_zero, List.set_cons_succ]
          refine wpAnyL_ready (rs := [23]) (by kernel_rfl) (by simp) ?_
          refine AllReadyL.cons (o := { dst := none, op := Go.Op.store 32 (Go.Operand.tmp 55) (Go.Operand.tmp 44), type := 0, pos := "law.go:43", after := #[{ on := 22, ground := Go.Ground.data }, { on := 11, ground := Go.Ground.data }, { on := 20, ground := Go.Ground.chain }, { on := 0, ground := Go.Ground.phase }, { on := 1, ground := Go.Ground.textOnly Go.Departure.lateStores }, { on := 2, ground := Go.Ground.textOnly Go.Departure.lateStoresUnsure }, { on := 3, ground := Go.Ground.textOnly Go.Departure.lateStoresUnsure }, { on := 4, ground := Go.Ground.phase }, { on := 5, ground := Go.Ground.phase }, { on := 6, ground := Go.Ground.phase }, { on := 7, ground := Go.Ground.phase }, { on := 8, ground := Go.Ground.phase }, { on := 9, ground := Go.Ground.phase }, { on := 10, ground := Go.Ground.phase }, { on := 11, ground := Go.Ground.phase }, { on := 12, ground := Go.Ground.textOnly Go.Departure.lateStores }, { on := 13, ground := Go.Ground.textOnly Go.Departure.lateStoresUnsure }, { on := 14, ground := Go.Ground.textOnly Go.Departure.lateStoresUnsure }, { on := 15, ground := Go.Ground.phase }, { on := 16, ground := Go.Ground.textOnly Go.Departure.lateStoresUnsure }, { on := 17, ground := Go.Ground.textOnly Go.Departure.lateStoresUnsure }, { on := 18, ground := Go.Ground.phase }, { on := 19, ground := Go.Ground.textOnly Go.Departure.lateStoresUnsure }, { on := 20, ground := Go.Ground.phase }], guard := none }) rfl (fun K hK => ?_) AllReadyL.nil
          obtain ⟨⟨k1, k2, k3⟩, f1, f2⟩ := hG.cells
          go_simp
          have hG2 := hG.set36
          have hk2 := hk.setCell (p := ⟨wb, 1, none⟩) hG.ge.1 (.slice (some ⟨g1, 0, none⟩) (ts.length + 1) cap1)
          refine hK.out _ _ (late_noR (by kernel_rfl)) ?_
          clear hK K hS hG hk k1 k2 k3 f1 f2
          try simp only [Act.put, List.setIfInBounds_toArray, List.set_cons_zero, List.set_cons_succ]
          generalize W3.setCell ⟨wb, 1, none⟩ (.slice (some ⟨g1, 0, none⟩) (ts.length + 1) cap1) = W4 at *
          have hG := hG2
          have hk := hk2
          clear hG2 hk2
          refine wpAnyL_ready (rs := [24]) (by kernel_rfl) (by simp) ?_
          refine AllReadyL.cons (o := { dst := some 56, op := Go.Op.nilCheck (Go.Operand.tmp 37), type := 0, pos := "law.go:43", after := #[{ on := 4, ground := Go.Ground.data }, { on := 0, ground := Go.Ground.phase }, { on := 1, ground := Go.Ground.phase }, { on := 2, ground := Go.Ground.phase }, { on := 3, ground := Go.Ground.phase }, { on := 4, ground := Go.Ground.phase }, { on := 5, ground := Go.Ground.phase }, { on := 6, ground := Go.Ground.phase }, { on := 7, ground := Go.Ground.phase }, { on := 8, ground := Go.Ground.phase }, { on := 9, ground := Go.Ground.phase }, { on := 10, ground := Go.Ground.phase }, { on := 11, ground := Go.Ground.phase }, { on := 12, ground := Go.Ground.phase }, { on := 13, ground := Go.Ground.phase }, { on := 14, ground := Go.Ground.phase }, { on := 15, ground := Go.Ground.phase }, { on := 16, ground := Go.Ground.phase }, { on := 17, ground := Go.Ground.phase }, { on := 18, ground := Go.Ground.phase }, { on := 19, ground := Go.Ground.phase }, { on := 20, ground := Go.Ground.phase }, { on := 21, ground := Go.Ground.phase }, { on := 22, ground := Go.Ground.phase }, { on := 23, ground := Go.Ground.phase }], guard := none }) rfl (fun K hK => ?_) AllReadyL.nil
          go_simp
          refine hK.out _ _ (late_noR (by kernel_rfl)) ?_
          clear hK K
          try simp only [Act.put, List.setIfInBounds_toArray, List.set_cons_zero, List.set_cons_succ]
          refine wpAnyL_ready (rs := [25]) (by kernel_rfl) (by simp) ?_
          refine AllReadyL.cons (o := { dst := some 57, op := Go.Op.fieldAddr 89 (Go.Operand.tmp 56) 1, type := 0, pos := "law.go:43", after := #[{ on := 24, ground := Go.Ground.data }, { on := 0, ground := Go.Ground.phase }, { on := 1, ground := Go.Ground.phase }, { on := 2, ground := Go.Ground.phase }, { on := 3, ground := Go.Ground.phase }, { on := 4, ground := Go.Ground.phase }, { on := 5, ground := Go.Ground.phase }, { on := 6, ground := Go.Ground.phase }, { on := 7, ground := Go.Ground.phase }, { on := 8, ground := Go.Ground.phase }, { on := 9, ground := Go.Ground.phase }, { on := 10, ground := Go.Ground.phase }, { on := 11, ground := Go.Ground.phase }, { on := 12, ground := Go.Ground.phase }, { on := 13, ground := Go.Ground.phase }, { on := 14, ground := Go.Ground.phase }, { on := 15, ground := Go.Ground.phase }, { on := 16, ground := Go.Ground.phase }, { on := 17, ground := Go.Ground.phase }, { on := 18, ground := Go.Ground.phase }, { on := 19, ground := Go.Ground.phase }, { on := 20, ground := Go.Ground.phase }, { on := 21, ground := Go.Ground.phase }, { on := 22, ground := Go.Ground.phase }, { on := 23, ground := Go.Ground.phase }], guard := none }) rfl (fun K hK => ?_) AllReadyL.nil
          go_simp
          refine hK.out _ _ (late_noR (by kernel_rfl)) ?_
          clear hK K
          try simp only [Act.put, List.setIfInBounds_toArray, List.set_cons_zero, List.set_cons_succ]
          refine wpAnyL_ready (rs := [26]) (by kernel_rfl) (by simp) ?_
          refine AllReadyL.cons (o := { dst := none, op := Go.Op.store 87 (Go.Operand.tmp 57) (Go.Operand.tmp 53), type := 0, pos := "law.go:43", after := #[{ on := 25, ground := Go.Ground.data }, { on := 20, ground := Go.Ground.data }, { on := 23, ground := Go.Ground.chain }, { on := 0, ground := Go.Ground.phase }, { on := 1, ground := Go.Ground.phase }, { on := 2, ground := Go.Ground.phase }, { on := 3, ground := Go.Ground.phase }, { on := 4, ground := Go.Ground.phase }, { on := 5, ground := Go.Ground.phase }, { on := 6, ground := Go.Ground.phase }, { on := 7, ground := Go.Ground.phase }, { on := 8, ground := Go.Ground.phase }, { on := 9, ground := Go.Ground.phase }, { on := 10, ground := Go.Ground.phase }, { on := 11, ground := Go.Ground.phase }, { on := 12, ground := Go.Ground.phase }, { on := 13, ground := Go.Ground.phase }, { on := 14, ground := Go.Ground.phase }, { on := 15, ground := Go.Ground.phase }, { on := 16, ground := Go.Ground.phase }, { on := 17, ground := Go.Ground.phase }, { on := 18, ground := Go.Ground.phase }, { on := 19, ground := Go.Ground.phase }, { on := 20, ground := Go.Ground.phase }, { on := 21, ground := Go.Ground.phase }, { on := 22, ground := Go.Ground.phase }, { on := 23, ground := Go.Ground.phase }], guard := none }) rfl (fun K hK => ?_) AllReadyL.nil
          obtain ⟨⟨k1, k2, k3⟩, f1, f2⟩ := hG.cells
          go_simp
          have hG2 := hG.set89
          have hk2 := hk.setCell (p := ⟨xb, 1, none⟩) hG.ge.2 (.slice (some ⟨g2, 0, none⟩) ((lv0 i).length + 1) cap2)
          refine hK.out _ _ (late_noR (by kernel_rfl)) ?_
          clear hK K hG hk k1 k2 k3 f1 f2
          try simp only [Act.put, List.setIfInBounds_toArray, List.set_cons_zero, List.set_cons_succ]
          generalize W4.setCell ⟨xb, 1, none⟩ (.slice (some ⟨g2, 0, none⟩) ((lv0 i).length + 1) cap2) = W5 at *
          have hG := hG2
          have hk := hk2
          clear hG2 hk2
          refine wpAnyL_done (by kernel_rfl) ?_ _
          have HMi := Lib.hid hG.toMi
          have HBl := Lib.hid hk
          clear hG hk
          go_wp2_with fail
          exact ⟨⟨i + 1, _, _, _, by omega, by go_num, HMi.out, HBl.out⟩, by simp [intOf]; omega⟩
        · refine AllReadyL.cons (o := { dst := some 52, op := Go.Op.buildSlice 87 1 #[(0, Go.Operand.const (Go.Value.bool true))], type := 87, pos := "law.go:43", after := #[], guard := none }) rfl (fun K hK => ?_) AllReadyL.nil
          go_simp
          have hG2 := hG.alloc (.cells #[.bool true] 4)
          have hk2 := hk.alloc hG.base_le (.cells #[.bool true] 4)
          have n19 : (Wa.alloc (.cells #[.bool true] 4)).heap[Wa.heap.size]? = some (.cells #[.bool true] 4 (0, 0)) := heap_alloc_new Wa _
          have n10 := (Below.heap_alloc Wa (.cells #[.bool true] 4) B10 (blk_lt n10)).trans n10
          refine hK.out _ _ (fun _ => hG2.cells.1) ?_
          clear hK K hS hG hk
          try simp only [Act.put, List.setIfInBounds_toArray, List.set_cons_zero, List.set_cons_succ]
          generalize Wa.alloc (.cells #[.bool true] 4) = Wb at *
          generalize Wa.heap.size = B19 at *
          have hG := hG2
          have hk := hk2
          have hS := hG.cells.1
          clear hG2 hk2
          refine wpAnyL_ready (rs := [11]) (by kernel_rfl) (by simp) ?_
          refine AllReadyL.cons (o := { dst := some 44, op := Go.Op.call { callee := Go.Callee.builtin Go.Builtin.append, args := #[Go.Operand.tmp 41, Go.Operand.tmp 43], argTypes := #[32, 32] }, type := 32, pos := "law.go:43", after := #[{ on := 8, ground := Go.Ground.data }, { on := 10, ground := Go.Ground.data }], guard := none }) rfl (fun K hK => ?_) AllReadyL.nil
          refine step_append_lies _ (by rfl) _ _ _ (by rfl) base 64 i64 _ 1 8 Try.underlying32 hi64 hz640 hz641 hz642 zsz_kids (by decide) tw ts.length (ts.map pt) (by rfl) hG.tr ⟨B10, 0, none⟩ 1 1 [.pointer (some ⟨t, 0, none⟩)] (by rfl) rfl (World.news_of_block n10) (by simp [Value.oneCell']) (by omega) (by unfold maxLen; omega) (by omega) hG.base_le _ rfl ?_
          intro g1 cap1 W2 hown1 hgrow1 hat1 hlt1
          have hG2 := hG.grownT (ts' := ts ++ [some t]) hgrow1 (by rw [List.length_append, List.map_append]; exact hown1)
          have hk2 := hk.grown hgrow1 hG.base_le (own_ge hG.tr)
          have n19 := (hgrow1.block B19 (blk_lt n19) (fun e => own_ne hG.tr (fun cur h => by rw [n19] at h; cases h) e.symm)).trans n19
          refine hK.out _ _ (fun _ => hG2.cells.1) ?_
          clear hK K hS hgrow1 hat1 hlt1 hown1 n10 hG hk
          try simp only [Act.put, List.setIfInBounds_toArray, List.set_cons_zero, List.set_cons_succ]
          have hG := hG2
          have hk := hk2
          have hS := hG.cells.1
          clear hG2 hk2
          refine wpAnyL_ready (rs := [20]) (by kernel_rfl) (by simp) ?_
          refine AllReadyL.cons (o := { dst := some 53, op := Go.Op.call { callee := Go.Callee.builtin Go.Builtin.append, args := #[Go.Operand.tmp 51, Go.Operand.tmp 52], argTypes := #[87, 87] }, type := 87, pos := "law.go:43", after := #[{ on := 18, ground := Go.Ground.data }, { on := 19, ground := Go.Ground.data }, { on := 11, ground := Go.Ground.chain }], guard := none }) rfl (fun K hK => ?_) AllReadyL.nil
          refine step_append_lies _ (by rfl) _ _ _ (by rfl) base 4 i4 _ 1 1 Try.underlying87 hi4 hz40 hz41 hz42 zsz_bool (by decide) Lv (lv0 i).length (boolsV (lv0 i)) (by rfl) hG.lr ⟨B19, 0, none⟩ 1 1 [.bool true] (by rfl) rfl (World.news_of_block n19) (by simp [Value.oneCell']) (by omega) (by unfold maxLen; omega) (by omega) hG.base_le _ rfl ?_
          intro g2 cap2 W3 hown2 hgrow2 hat2 hlt2
          have hG2 := hG.grownL (lv' := lv0 (i + 1)) hgrow2 (by rw [HLV.out, List.length_append, boolsV, List.map_append]; exact hown2)
          have hk2 := hk.grown hgrow2 hG.base_le (own_ge hG.lr)
          refine hK.out _ _ (fun _ => hG2.cells.1) ?_
          clear hK K hS hgrow2 hat2 hlt2 hown2 n19 hG hk
          try simp only [Act.put, List.setIfInBounds_toArray, List.set_cons_zero, List.set_cons_succ]
          have hG := hG2
          have hk := hk2
          have hS := hG.cells.1
          clear hG2 hk2
          refine wpAnyL_ready (rs := [21]) (by kernel_rfl) (by simp) ?_
          refine AllReadyL.cons (o := { dst := some 54, op := Go.Op.nilCheck (Go.Operand.tmp 33), type := 0, pos := "law.go:43", after := #[{ on := 0, ground := Go.Ground.data }, { on := 0, ground := Go.Ground.phase }, { on := 1, ground := Go.Ground.textOnly Go.Departure.lateStores }, { on := 2, ground := Go.Ground.textOnly Go.Departure.lateStoresUnsure }, { on := 3, ground := Go.Ground.textOnly Go.Departure.lateStoresUnsure }, { on := 4, ground := Go.Ground.phase }, { on := 5, ground := Go.Ground.phase }, { on := 6, ground := Go.Ground.phase }, { on := 7, ground := Go.Ground.phase }, { on := 8, ground := Go.Ground.phase }, { on := 9, ground := Go.Ground.phase }, { on := 10, ground := Go.Ground.phase }, { on := 11, ground := Go.Ground.phase }, { on := 12, ground := Go.Ground.textOnly Go.Departure.lateStores }, { on := 13, ground := Go.Ground.textOnly Go.Departure.lateStoresUnsure }, { on := 14, ground := Go.Ground.textOnly Go.Departure.lateStoresUnsure }, { on := 15, ground := Go.Ground.phase }, { on := 16, ground := Go.Ground.textOnly Go.Departure.lateStoresUnsure }, { on := 17, ground := Go.Ground.textOnly Go.Departure.lateStoresUnsure }, { on := 18, ground := Go.Ground.phase }, { on := 19, ground := Go.Ground.textOnly Go.Departure.lateStoresUnsure }, { on := 20, ground := Go.Ground.phase }], guard := none }) rfl (fun K hK => ?_) AllReadyL.nil
          go_simp
          refine hK.out _ _ (fun _ => hS) ?_
          clear hK K
          try simp only [Act.put, List.setIfInBounds_toArray, List.set_cons_zero, List.set_cons_succ]
          refine wpAnyL_ready (rs := [22]) (by kernel_rfl) (by simp) ?_
          refine AllReadyL.cons (o := { dst := some 55, op := Go.Op.fieldAddr 36 (Go.Operand.tmp 54) 1, type := 0, pos := "law.go:43", after := #[{ on := 21, ground := Go.Ground.data }, { on := 0, ground := Go.Ground.phase }, { on := 1, ground := Go.Ground.textOnly Go.Departure.lateStores }, { on := 2, ground := Go.Ground.textOnly Go.Departure.lateStoresUnsure }, { on := 3, ground := Go.Ground.textOnly Go.Departure.lateStoresUnsure }, { on := 4, ground := Go.Ground.phase }, { on := 5, ground := Go.Ground.phase }, { on := 6, ground := Go.Ground.phase }, { on := 7, ground := Go.Ground.phase }, { on := 8, ground := Go.Ground.phase }, { on := 9, ground := Go.Ground.phase }, { on := 10, ground := Go.Ground.phase }, { on := 11, ground := Go.Ground.phase }, { on := 12, ground := Go.Ground.textOnly Go.Departure.lateStores }, { on := 13, ground := Go.Ground.textOnly Go.Departure.lateStoresUnsure }, { on := 14, ground := Go.Ground.textOnly Go.Departure.lateStoresUnsure }, { on := 15, ground := Go.Ground.phase }, { on := 16, ground := Go.Ground.textOnly Go.Departure.lateStoresUnsure }, { on := 17, ground := Go.Ground.textOnly Go.Departure.lateStoresUnsure }, { on := 18, ground := Go.Ground.phase }, { on := 19, ground := Go.Ground.textOnly Go.Departure.lateStoresUnsure }, { on := 20, ground := Go.Ground.phase }], guard := none }) rfl (fun K hK => ?_) AllReadyL.nil
          go_simp
          refine hK.out _ _ (fun _ => hS) ?_
          clear hK K
          try simp only [Act.put, List.setIfInBounds_toArray, List.set_cons_zero, List.set_cons_succ]
          refine wpAnyL_ready (rs := [23]) (by kernel_rfl) (by simp) ?_
          refine AllReadyL.cons (o := { dst := none, op := Go.Op.store 32 (Go.Operand.tmp 55) (Go.Operand.tmp 44), type := 0, pos := "law.go:43", after := #[{ on := 22, ground := Go.Ground.data }, { on := 11, ground := Go.Ground.data }, { on := 20, ground := Go.Ground.chain }, { on := 0, ground := Go.Ground.phase }, { on := 1, ground := Go.Ground.textOnly Go.Departure.lateStores }, { on := 2, ground := Go.Ground.textOnly Go.Departure.lateStoresUnsure }, { on := 3, ground := Go.Ground.textOnly Go.Departure.lateStoresUnsure }, { on := 4, ground := Go.Ground.phase }, { on := 5, ground := Go.Ground.phase }, { on := 6, ground := Go.Ground.phase }, { on := 7, ground := Go.Ground.phase }, { on := 8, ground := Go.Ground.phase }, { on := 9, ground := Go.Ground.phase }, { on := 10, ground := Go.Ground.phase }, { on := 11, ground := Go.Ground.phase }, { on := 12, ground := Go.Ground.textOnly Go.Departure.lateStores }, { on := 13, ground := Go.Ground.textOnly Go.Departure.lateStoresUnsure }, { on := 14, ground := Go.Ground.textOnly Go.Departure.lateStoresUnsure }, { on := 15, ground := Go.Ground.phase }, { on := 16, ground := Go.Ground.textOnly Go.Departure.lateStoresUnsure }, { on := 17, ground := Go.Ground.textOnly Go.Departure.lateStoresUnsure }, { on := 18, ground := Go.Ground.phase }, { on := 19, ground := Go.Ground.textOnly Go.Departure.lateStoresUnsure }, { on := 20, ground := Go.Ground.phase }], guard := none }) rfl (fun K hK => ?_) AllReadyL.nil
          obtain ⟨⟨k1, k2, k3⟩, f1, f2⟩ := hG.cells
          go_simp
          have hG2 := hG.set36
          have hk2 := hk.setCell (p := ⟨wb, 1, none⟩) hG.ge.1 (.slice (some ⟨g1, 0, none⟩) (ts.length + 1) cap1)
          refine hK.out _ _ (late_noR (by kernel_rfl)) ?_
          clear hK K hS hG hk k1 k2 k3 f1 f2
          try simp only [Act.put, List.setIfInBounds_toArray, List.set_cons_zero, List.set_cons_succ]
          generalize W3.setCell ⟨wb, 1, none⟩ (.slice (some ⟨g1, 0, none⟩) (ts.length + 1) cap1) = W4 at *
          have hG := hG2
          have hk := hk2
          clear hG2 hk2
          refine wpAnyL_ready (rs := [24]) (by kernel_rfl) (by simp) ?_
          refine AllReadyL.cons (o := { dst := some 56, op := Go.Op.nilCheck (Go.Operand.tmp 37), type := 0, pos := "law.go:43", after := #[{ on := 4, ground := Go.Ground.data }, { on := 0, ground := Go.Ground.phase }, { on := 1, ground := Go.Ground.phase }, { on := 2, ground := Go.Ground.phase }, { on := 3, ground := Go.Ground.phase }, { on := 4, ground := Go.Ground.phase }, { on := 5, ground := Go.Ground.phase }, { on := 6, ground := Go.Ground.phase }, { on := 7, ground := Go.Ground.phase }, { on := 8, ground := Go.Ground.phase }, { on := 9, ground := Go.Ground.phase }, { on := 10, ground := Go.Ground.phase }, { on := 11, ground := Go.Ground.phase }, { on := 12, ground := Go.Ground.phase }, { on := 13, ground := Go.Ground.phase }, { on := 14, ground := Go.Ground.phase }, { on := 15, ground := Go.Ground.phase }, { on := 16, ground := Go.Ground.phase }, { on := 17, ground := Go.Ground.phase }, { on := 18, ground := Go.Ground.phase }, { on := 19, ground := Go.Ground.phase }, { on := 20, ground := Go.Ground.phase }, { on := 21, ground := Go.Ground.phase }, { on := 22, ground := Go.Ground.phase }, { on := 23, ground := Go.Ground.phase }], guard := none }) rfl (fun K hK => ?_) AllReadyL.nil
          go_simp
          refine hK.out _ _ (late_noR (by kernel_rfl)) ?_
          clear hK K
          try simp only [Act.put, List.setIfInBounds_toArray, List.set_cons_zero, List.set_cons_succ]
          refine wpAnyL_ready (rs := [25]) (by kernel_rfl) (by simp) ?_
          refine AllReadyL.cons (o := { dst := some 57, op := Go.Op.fieldAddr 89 (Go.Operand.tmp 56) 1, type := 0, pos := "law.go:43", after := #[{ on := 24, ground := Go.Ground.data }, { on := 0, ground := Go.Ground.phase }, { on := 1, ground := Go.Ground.phase }, { on := 2, ground := Go.Ground.phase }, { on := 3, ground := Go.Ground.phase }, { on := 4, ground := Go.Ground.phase }, { on := 5, ground := Go.Ground.phase }, { on := 6, ground := Go.Ground.phase }, { on := 7, ground := Go.Ground.phase }, { on := 8, ground := Go.Ground.phase }, { on := 9, ground := Go.Ground.phase }, { on := 10, ground := Go.Ground.phase }, { on := 11, ground := Go.Ground.phase }, { on := 12, ground := Go.Ground.phase }, { on := 13, ground := Go.Ground.phase }, { on := 14, ground := Go.Ground.phase }, { on := 15, ground := Go.Ground.phase }, { on := 16, ground := Go.Ground.phase }, { on := 17, ground := Go.Ground.phase }, { on := 18, ground := Go.Ground.phase }, { on := 19, ground := Go.Ground.phase }, { on := 20, ground := Go.Ground.phase }, { on := 21, ground := Go.Ground.phase }, { on := 22, ground := Go.Ground.phase }, { on := 23, ground := Go.Ground.phase }], guard := none }) rfl (fun K hK => ?_) AllReadyL.nil
          go_simp
          refine hK.out _ _ (late_noR (by kernel_rfl)) ?_
          clear hK K
          try simp only [Act.put, List.setIfInBounds_toArray, List.set_cons_zero, List.set_cons_succ]
          refine wpAnyL_ready (rs := [26]) (by kernel_rfl) (by simp) ?_
          refine AllReadyL.cons (o := { dst := none, op := Go.Op.store 87 (Go.Operand.tmp 57) (Go.Operand.tmp 53), type := 0, pos := "law.go:43", after := #[{ on := 25, ground := Go.Ground.data }, { on := 20, ground := Go.Ground.data }, { on := 23, ground := Go.Ground.chain }, { on := 0, ground := Go.Ground.phase }, { on := 1, ground := Go.Ground.phase }, { on := 2, ground := Go.Ground.phase }, { on := 3, ground := Go.Ground.phase }, { on := 4, ground := Go.Ground.phase }, { on := 5, ground := Go.Ground.phase }, { on := 6, ground := Go.Ground.phase }, { on := 7, ground := Go.Ground.phase }, { on := 8, ground := Go.Ground.phase }, { on := 9, ground := Go.Ground.phase }, { on := 10, ground := Go.Ground.phase }, { on := 11, ground := Go.Ground.phase }, { on := 12, ground := Go.Ground.phase }, { on := 13, ground := Go.Ground.phase }, { on := 14, ground := Go.Ground.phase }, { on := 15, ground := Go.Ground.phase }, { on := 16, ground := Go.Ground.phase }, { on := 17, ground := Go.Ground.phase }, { on := 18, ground := Go.Ground.phase }, { on := 19, ground := Go.Ground.phase }, { on := 20, ground := Go.Ground.phase }, { on := 21, ground := Go.Ground.phase }, { on := 22, ground := Go.Ground.phase }, { on := 23, ground := Go.Ground.phase }], guard := none }) rfl (fun K hK => ?_) AllReadyL.nil
          obtain ⟨⟨k1, k2, k3⟩, f1, f2⟩ := hG.cells
          go_simp
          have hG2 := hG.set89
          have hk2 := hk.setCell (p := ⟨xb, 1, none⟩) hG.ge.2 (.slice (some ⟨g2, 0, none⟩) ((lv0 i).length + 1) cap2)
          refine hK.out _ _ (late_noR (by kernel_rfl)) ?_
          clear hK K hG hk k1 k2 k3 f1 f2
          try simp only [Act.put, List.setIfInBounds_toArray, List.set_cons_zero, List.set_cons_succ]
          generalize W4.setCell ⟨xb, 1, none⟩ (.slice (some ⟨g2, 0, none⟩) ((lv0 i).length + 1) cap2) = W5 at *
          have hG := hG2
          have hk := hk2
          clear hG2 hk2
          refine wpAnyL_done (by kernel_rfl) ?_ _
          have HMi := Lib.hid hG.toMi
          have HBl := Lib.hid hk
          clear hG hk
          go_wp2_with fail
          exact ⟨⟨i + 1, _, _, _, by omega, by go_num, HMi.out, HBl.out⟩, by simp [intOf]; omega⟩
      · refine AllReadyL.cons (o := { dst := some 52, op := Go.Op.buildSlice 87 1 #[(0, Go.Operand.const (Go.Value.bool true))], type := 87, pos := "law.go:43", after := #[], guard := none }) rfl (fun K hK => ?_) AllReadyL.nil
        go_simp
        have hG2 := hG.alloc (.cells #[.bool true] 4)
        have hk2 := hk.alloc hG.base_le (.cells #[.bool true] 4)
        have n19 : (W.alloc (.cells #[.bool true] 4)).heap[W.heap.size]? = some (.cells #[.bool true] 4 (0, 0)) := heap_alloc_new W _
        skip
        refine hK.out _ _ (fun _ => hG2.cells.1) ?_
        clear hK K hS hG hk
        try simp only [Act.put, List.setIfInBounds_toArray, List.set_cons_zero, List.set_cons_succ]
        generalize W.alloc (.cells #[.bool true] 4) = Wa at *
        generalize W.heap.size = B19 at *
        have hG := hG2
        have hk := hk2
        have hS := hG.cells.1
        clear hG2 hk2
        refine wpAnyL_ready (rs := [10]) (by kernel_rfl) (by simp) ?_
        refine AllReadyL.cons (o := { dst := some 43, op := Go.Op.buildSlice 32 1 #[(0, Go.Operand.tmp 42)], type := 32, pos := "law.go:43", after := #[{ on := 9, ground := Go.Ground.data }], guard := none }) rfl (fun K hK => ?_) AllReadyL.nil
        go_simp
        have hG2 := hG.alloc (.cells #[.pointer (some ⟨t, 0, none⟩)] 64)
        have hk2 := hk.alloc hG.base_le (.cells #[.pointer (some ⟨t, 0, none⟩)] 64)
        have n10 : (Wa.alloc (.cells #[.pointer (some ⟨t, 0, none⟩)] 64)).heap[Wa.heap.size]? = some (.cells #[.pointer (some ⟨t, 0, none⟩)] 64 (0, 0)) := heap_alloc_new Wa _
        have n19 := (Below.heap_alloc Wa (.cells #[.pointer (some ⟨t, 0, none⟩)] 64) B19 (blk_lt n19)).trans n19
        refine hK.out _ _ (fun _ => hG2.cells.1) ?_
        clear hK K hS hG hk
        try simp only [Act.put, List.setIfInBounds_toArray, List.set_cons_zero, List.set_cons_succ]
        generalize Wa.alloc (.cells #[.pointer (some ⟨t, 0, none⟩)] 64) = Wb at *
        generalize Wa.heap.size = B10 at *
        have hG := hG2
        have hk := hk2
        have hS := hG.cells.1
        clear hG2 hk2
        refine wpAnyL_ready (rs := [11]) (by kernel_rfl) (by simp) ?_
        refine AllReadyL.cons (o := { dst := some 44, op := Go.Op.call { callee := Go.Callee.builtin Go.Builtin.append, args := #[Go.Operand.tmp 41, Go.Operand.tmp 43], argTypes := #[32, 32] }, type := 32, pos := "law.go:43", after := #[{ on := 8, ground := Go.Ground.data }, { on := 10, ground := Go.Ground.data }], guard := none }) rfl (fun K hK => ?_) AllReadyL.nil
        refine step_append_lies _ (by rfl) _ _ _ (by rfl) base 64 i64 _ 1 8 Try.underlying32 hi64 hz640 hz641 hz642 zsz_kids (by decide) tw ts.length (ts.map pt) (by rfl) hG.tr ⟨B10, 0, none⟩ 1 1 [.pointer (some ⟨t, 0, none⟩)] (by rfl) rfl (World.news_of_block n10) (by simp [Value.oneCell']) (by omega) (by unfold maxLen; omega) (by omega) hG.base_le _ rfl ?_
        intro g1 cap1 W2 hown1 hgrow1 hat1 hlt1
        have hG2 := hG.grownT (ts' := ts ++ [some t]) hgrow1 (by rw [List.length_append, List.map_append]; exact hown1)
        have hk2 := hk.grown hgrow1 hG.base_le (own_ge hG.tr)
        have n19 := (hgrow1.block B19 (blk_lt n19) (fun e => own_ne hG.tr (fun cur h => by rw [n19] at h; cases h) e.symm)).trans n19
        refine hK.out _ _ (fun _ => hG2.cells.1) ?_
        clear hK K hS hgrow1 hat1 hlt1 hown1 n10 hG hk
        try simp only [Act.put, List.setIfInBounds_toArray, List.set_cons_zero, List.set_cons_succ]
        have hG := hG2
        have hk := hk2
        have hS := hG.cells.1
        clear hG2 hk2
        refine wpAnyL_ready (rs := [20]) (by kernel_rfl) (by simp) ?_
        refine AllReadyL.cons (o := { dst := some 53, op := Go.Op.call { callee := Go.Callee.builtin Go.Builtin.append, args := #[Go.Operand.tmp 51, Go.Operand.tmp 52], argTypes := #[87, 87] }, type := 87, pos := "law.go:43", after := #[{ on := 18, ground := Go.Ground.data }, { on := 19, ground := Go.Ground.data }, { on := 11, ground := Go.Ground.chain }], guard := none }) rfl (fun K hK => ?_) AllReadyL.nil
        refine step_append_lies _ (by rfl) _ _ _ (by rfl) base 4 i4 _ 1 1 Try.underlying87 hi4 hz40 hz41 hz42 zsz_bool (by decide) Lv (lv0 i).length (boolsV (lv0 i)) (by rfl) hG.lr ⟨B19, 0, none⟩ 1 1 [.bool true] (by rfl) rfl (World.news_of_block n19) (by simp [Value.oneCell']) (by omega) (by unfold maxLen; omega) (by omega) hG.base_le _ rfl ?_
        intro g2 cap2 W3 hown2 hgrow2 hat2 hlt2
        have hG2 := hG.grownL (lv' := lv0 (i + 1)) hgrow2 (by rw [HLV.out, List.length_append, boolsV, List.map_append]; exact hown2)
        have hk2 := hk.grown hgrow2 hG.base_le (own_ge hG.lr)
        refine hK.out _ _ (fun _ => hG2.cells.1) ?_
        clear hK K hS hgrow2 hat2 hlt2 hown2 n19 hG hk
        try simp only [Act.put, List.setIfInBounds_toArray, List.set_cons_zero, List.set_cons_succ]
        have hG := hG2
        have hk := hk2
        have hS := hG.cells.1
        clear hG2 hk2
        refine wpAnyL_ready (rs := [21]) (by kernel_rfl) (by simp) ?_
        refine AllReadyL.cons (o := { dst := some 54, op := Go.Op.nilCheck (Go.Operand.tmp 33), type := 0, pos := "law.go:43", after := #[{ on := 0, ground := Go.Ground.data }, { on := 0, ground := Go.Ground.phase }, { on := 1, ground := Go.Ground.textOnly Go.Departure.lateStores }, { on := 2, ground := Go.Ground.textOnly Go.Departure.lateStoresUnsure }, { on := 3, ground := Go.Ground.textOnly Go.Departure.lateStoresUnsure }, { on := 4, ground := Go.Ground.phase }, { on := 5, ground := Go.Ground.phase }, { on := 6, ground := Go.Ground.phase }, { on := 7, ground := Go.Ground.phase }, { on := 8, ground := Go.Ground.phase }, { on := 9, ground := Go.Ground.phase }, { on := 10, ground := Go.Ground.phase }, { on := 11, ground := Go.Ground.phase }, { on := 12, ground := Go.Ground.textOnly Go.Departure.lateStores }, { on := 13, ground := Go.Ground.textOnly Go.Departure.lateStoresUnsure }, { on := 14, ground := Go.Ground.textOnly Go.Departure.lateStoresUnsure }, { on := 15, ground := Go.Ground.phase }, { on := 16, ground := Go.Ground.textOnly Go.Departure.lateStoresUnsure }, { on := 17, ground := Go.Ground.textOnly Go.Departure.lateStoresUnsure }, { on := 18, ground := Go.Ground.phase }, { on := 19, ground := Go.Ground.textOnly Go.Departure.lateStoresUnsure }, { on := 20, ground := Go.Ground.phase }], guard := none }) rfl (fun K hK => ?_) AllReadyL.nil
        go_simp
        refine hK.out _ _ (fun _ => hS) ?_
        clear hK K
        try simp only [Act.put, List.setIfInBounds_toArray, List.set_cons_zero, List.set_cons_succ]
        refine wpAnyL_ready (rs := [22]) (by kernel_rfl) (by simp) ?_
        refine AllReadyL.cons (o := { dst := some 55, op := Go.Op.fieldAddr 36 (Go.Operand.tmp 54) 1, type := 0, pos := "law.go:43", after := #[{ on := 21, ground := Go.Ground.data }, { on := 0, ground := Go.Ground.phase }, { on := 1, ground := Go.Ground.textOnly Go.Departure.lateStores }, { on := 2, ground := Go.Ground.textOnly Go.Departure.lateStoresUnsure }, { on := 3, ground := Go.Ground.textOnly Go.Departure.lateStoresUnsure }, { on := 4, ground := Go.Ground.phase }, { on := 5, ground := Go.Ground.phase }, { on := 6, ground := Go.Ground.phase }, { on := 7, ground := Go.Ground.phase }, { on := 8, ground := Go.Ground.phase }, { on := 9, ground := Go.Ground.phase }, { on := 10, ground := Go.Ground.phase }, { on := 11, ground := Go.Ground.phase }, { on := 12, ground := Go.Ground.textOnly Go.Departure.lateStores }, { on := 13, ground := Go.Ground.textOnly Go.Departure.lateStoresUnsure }, { on := 14, ground := Go.Ground.textOnly Go.Departure.lateStoresUnsure }, { on := 15, ground := Go.Ground.phase }, { on := 16, ground := Go.Ground.textOnly Go.Departure.lateStoresUnsure }, { on := 17, ground := Go.Ground.textOnly Go.Departure.lateStoresUnsure }, { on := 18, ground := Go.Ground.phase }, { on := 19, ground := Go.Ground.textOnly Go.Departure.lateStoresUnsure }, { on := 20, ground := Go.Ground.phase }], guard := none }) rfl (fun K hK => ?_) AllReadyL.nil
        go_simp
        refine hK.out _ _ (fun _ => hS) ?_
        clear hK K
        try simp only [Act.put, List.setIfInBounds_toArray, List.set_cons_zero, List.set_cons_succ]
        refine wpAnyL_ready (rs := [23]) (by kernel_rfl) (by simp) ?_
        refine AllReadyL.cons (o := { dst := none, op := Go.Op.store 32 (Go.Operand.tmp 55) (Go.Operand.tmp 44), type := 0, pos := "law.go:43", after := #[{ on := 22, ground := Go.Ground.data }, { on := 11, ground := Go.Ground.data }, { on := 20, ground := Go.Ground.chain }, { on := 0, ground := Go.Ground.phase }, { on := 1, ground := Go.Ground.textOnly Go.Departure.lateStores }, { on := 2, ground := Go.Ground.textOnly Go.Departure.lateStoresUnsure }, { on := 3, ground := Go.Ground.textOnly Go.Departure.lateStoresUnsure }, { on := 4, ground := Go.Ground.phase }, { on := 5, ground := Go.Ground.phase }, { on := 6, ground := Go.Ground.phase }, { on := 7, ground := Go.Ground.phase }, { on := 8, ground := Go.Ground.phase }, { on := 9, ground := Go.Ground.phase }, { on := 10, ground := Go.Ground.phase }, { on := 11, ground := Go.Ground.phase }, { on := 12, ground := Go.Ground.textOnly Go.Departure.lateStores }, { on := 13, ground := Go.Ground.textOnly Go.Departure.lateStoresUnsure }, { on := 14, ground := Go.Ground.textOnly Go.Departure.lateStoresUnsure }, { on := 15, ground := Go.Ground.phase }, { on := 16, ground := Go.Ground.textOnly Go.Departure.lateStoresUnsure }, { on := 17, ground := Go.Ground.textOnly Go.Departure.lateStoresUnsure }, { on := 18, ground := Go.Ground.phase }, { on := 19, ground := Go.Ground.textOnly Go.Departure.lateStoresUnsure }, { on := 20, ground := Go.Ground.phase }], guard := none }) rfl (fun K hK => ?_) AllReadyL.nil
        obtain ⟨⟨k1, k2, k3⟩, f1, f2⟩ := hG.cells
        go_simp
        have hG2 := hG.set36
        have hk2 := hk.setCell (p := ⟨wb, 1, none⟩) hG.ge.1 (.slice (some ⟨g1, 0, none⟩) (ts.length + 1) cap1)
        refine hK.out _ _ (late_noR (by kernel_rfl)) ?_
        clear hK K hS hG hk k1 k2 k3 f1 f2
        try simp only [Act.put, List.setIfInBounds_toArray, List.set_cons_zero, List.set_cons_succ]
        generalize W3.setCell ⟨wb, 1, none⟩ (.slice (some ⟨g1, 0, none⟩) (ts.length + 1) cap1) = W4 at *
        have hG := hG2
        have hk := hk2
        clear hG2 hk2
        refine wpAnyL_ready (rs := [24]) (by kernel_rfl) (by simp) ?_
        refine AllReadyL.cons (o := { dst := some 56, op := Go.Op.nilCheck (Go.Operand.tmp 37), type := 0, pos := "law.go:43", after := #[{ on := 4, ground := Go.Ground.data }, { on := 0, ground := Go.Ground.phase }, { on := 1, ground := Go.Ground.phase }, { on := 2, ground := Go.Ground.phase }, { on := 3, ground := Go.Ground.phase }, { on := 4, ground := Go.Ground.phase }, { on := 5, ground := Go.Ground.phase }, { on := 6, ground := Go.Ground.phase }, { on := 7, ground := Go.Ground.phase }, { on := 8, ground := Go.Ground.phase }, { on := 9, ground := Go.Ground.phase }, { on := 10, ground := Go.Ground.phase }, { on := 11, ground := Go.Ground.phase }, { on := 12, ground := Go.Ground.phase }, { on := 13, ground := Go.Ground.phase }, { on := 14, ground := Go.Ground.phase }, { on := 15, ground := Go.Ground.phase }, { on := 16, ground := Go.Ground.phase }, { on := 17, ground := Go.Ground.phase }, { on := 18, ground := Go.Ground.phase }, { on := 19, ground := Go.Ground.phase }, { on := 20, ground := Go.Ground.phase }, { on := 21, ground := Go.Ground.phase }, { on := 22, ground := Go.Ground.phase }, { on := 23, ground := Go.Ground.phase }], guard := none }) rfl (fun K hK => ?_) AllReadyL.nil
        go_simp
        refine hK.out _ _ (late_noR (by kernel_rfl)) ?_
        clear hK K
        try simp only [Act.put, List.setIfInBounds_toArray, List.set_cons_zero, List.set_cons_succ]
        refine wpAnyL_ready (rs := [25]) (by kernel_rfl) (by simp) ?_
        refine AllReadyL.cons (o := { dst := some 57, op := Go.Op.fieldAddr 89 (Go.Operand.tmp 56) 1, type := 0, pos := "law.go:43", after := #[{ on := 24, ground := Go.Ground.data }, { on := 0, ground := Go.Ground.phase }, { on := 1, ground := Go.Ground.phase }, { on := 2, ground := Go.Ground.phase }, { on := 3, ground := Go.Ground.phase }, { on := 4, ground := Go.Ground.phase }, { on := 5, ground := Go.Ground.phase }, { on := 6, ground := Go.Ground.phase }, { on := 7, ground := Go.Ground.phase }, { on := 8, ground := Go.Ground.phase }, { on := 9, ground := Go.Ground.phase }, { on := 10, ground := Go.Ground.phase }, { on := 11, ground := Go.Ground.phase }, { on := 12, ground := Go.Ground.phase }, { on := 13, ground := Go.Ground.phase }, { on := 14, ground := Go.Ground.phase }, { on := 15, ground := Go.Ground.phase }, { on := 16, ground := Go.Ground.phase }, { on := 17, ground := Go.Ground.phase }, { on := 18, ground := Go.Ground.phase }, { on := 19, ground := Go.Ground.phase }, { on := 20, ground := Go.Ground.phase }, { on := 21, ground := Go.Ground.phase }, { on := 22, ground := Go.Ground.phase }, { on := 23, ground := Go.Ground.phase }], guard := none }) rfl (fun K hK => ?_) AllReadyL.nil
        go_simp
        refine hK.out _ _ (late_noR (by kernel_rfl)) ?_
        clear hK K
        try simp only [Act.put, List.setIfInBounds_toArray, List.set_cons_zero, List.set_cons_succ]
        refine wpAnyL_ready (rs := [26]) (by kernel_rfl) (by simp) ?_
        refine AllReadyL.cons (o := { dst := none, op := Go.Op.store 87 (Go.Operand.tmp 57) (Go.Operand.tmp 53), type := 0, pos := "law.go:43", after := #[{ on := 25, ground := Go.Ground.data }, { on := 20, ground := Go.Ground.data }, { on := 23, ground := Go.Ground.chain }, { on := 0, ground := Go.Ground.phase }, { on := 1, ground := Go.Ground.phase }, { on := 2, ground := Go.Ground.phase }, { on := 3, ground := Go.Ground.phase }, { on := 4, ground := Go.Ground.phase }, { on := 5, ground := Go.Ground.phase }, { on := 6, ground := Go.Ground.phase }, { on := 7, ground := Go.Ground.phase }, { on := 8, ground := Go.Ground.phase }, { on := 9, ground := Go.Ground.phase }, { on := 10, ground := Go.Ground.phase }, { on := 11, ground := Go.Ground.phase }, { on := 12, ground := Go.Ground.phase }, { on := 13, ground := Go.Ground.phase }, { on := 14, ground := Go.Ground.phase }, { on := 15, ground := Go.Ground.phase }, { on := 16, ground := Go.Ground.phase }, { on := 17, ground := Go.Ground.phase }, { on := 18, ground := Go.Ground.phase }, { on := 19, ground := Go.Ground.phase }, { on := 20, ground := Go.Ground.phase }, { on := 21, ground := Go.Ground.phase }, { on := 22, ground := Go.Ground.phase }, { on := 23, ground := Go.Ground.phase }], guard := none }) rfl (fun K hK => ?_) AllReadyL.nil
        obtain ⟨⟨k1, k2, k3⟩, f1, f2⟩ := hG.cells
        go_simp
        have hG2 := hG.set89
        have hk2 := hk.setCell (p := ⟨xb, 1, none⟩) hG.ge.2 (.slice (some ⟨g2, 0, none⟩) ((lv0 i).length + 1) cap2)
        refine hK.out _ _ (late_noR (by kernel_rfl)) ?_
        clear hK K hG hk k1 k2 k3 f1 f2
        try simp only [Act.put, List.setIfInBounds_toArray, List.set_cons_zero, List.set_cons_succ]
        generalize W4.setCell ⟨xb, 1, none⟩ (.slice (some ⟨g2, 0, none⟩) ((lv0 i).length + 1) cap2) = W5 at *
        have hG := hG2
        have hk := hk2
        clear hG2 hk2
        refine wpAnyL_done (by kernel_rfl) ?_ _
        have HMi := Lib.hid hG.toMi
        have HBl := Lib.hid hk
        clear hG hk
        go_wp2_with fail
        exact ⟨⟨i + 1, _, _, _, by omega, by go_num, HMi.out, HBl.out⟩, by simp [intOf]; omega⟩

    · obtain rfl : i = 4 := by omega
      have HM := Lib.hid hM
      have HB := Lib.hid hB
      clear hM hB
      go_wp2_with fail
      go_ret
      exact ⟨wb, p, c, xb, b0, b1, lw, tw, Nv, Lv, ts, rfl, HM.out, HB.out⟩

theorem made_any (w : World) : Calls Try.prog 13 #[] w (MadePost w.heap.size w) :=
  madeHead _ w fun wb p c xb b0 b1 lw tw Nv Lv w1 x2 x3 x4 x5 x6 x7 x8 x9 x10 x11 x12 x13 x14 x15 x16 x17 x18 x19 x20 x21 x22 x23 x24 x25 x26 x27 x28 x29 x30 x31 x32 x33 x34 x35 x36 x37 x38 x39 x40 x41 x42 x43 x44 x45 x46 x47 x48 x49 x50 x51 x52 x53 x54 x55 x56 x57 x58 x59 hB hM => madeMid_any _ wb p c xb b0 b1 lw tw Nv Lv w w1 hM hB (Nat.le_refl _) x2 x3 x4 x5 x6 x7 x8 x9 x10 x11 x12 x13 x14 x15 x16 x17 x18 x19 x20 x21 x22 x23 x24 x25 x26 x27 x28 x29 x30 x31 x32 x33 x34 x35 x36 x37 x38 x39 x40 x41 x42 x43 x44 x45 x46 x47 x48 x49 x50 x51 x52 x53 x54 x55 x56 x57 x58 x59

end Go.Proofs.Ytgldgdpgbfejmaa
