/- ShapeRaw: the law's built. -/
import Derived.Test.YtchimfgbdfmegaaGreatGaw
import Derived.Test.YtchimfgbdfmegaaGreatGav
import Derived.BigQuiet
import Derived.Deep.RegionHeld3
namespace Go.Proofs.YtchimfgbdfmegaaGreat
open Go.RowKit Go.Lib
set_option linter.unusedVariables false
set_option linter.unusedSimpArgs false
set_option maxRecDepth 100000
attribute [local irreducible] cnt
theorem Known.bucket {L : List Pr} (hr : RisesL L) (hs : Short L) (hl : L.length ≤ 4) : Known (.bucket L) 4 400 where
  good := hr
  small := ⟨by omega, fun p hp => by have := hs p hp; omega⟩
  all := fun d => by cases d <;> exact hl
  short := fun d => by cases d <;> exact hs
  enc := fun d => by
    cases d with
    | zero => simp [encR]
    | succ d =>
      have := pairsB_len hs
      simp only [encR, List.length_cons, List.length_append, twoB_len]
      omega
theorem keepX {bx N14 : Nat} {v : Value} {q : Pr} {w w' : World} (h : w.cell? ⟨bx, 1, none⟩ = some v ∧ w.cell? ⟨N14, 0, none⟩ = some (.string q.1) ∧ w.cell? ⟨N14, 1, none⟩ = some (.string q.2)) (hB : Below w.heap.size w w') : w'.cell? ⟨bx, 1, none⟩ = some v ∧ w'.cell? ⟨N14, 0, none⟩ = some (.string q.1) ∧ w'.cell? ⟨N14, 1, none⟩ = some (.string q.2) := by
  have f : ∀ a v, w.cell? a = some v → w'.cell? a = some v := fun a v e => (hB.cell (World.block_lt_of_cell? w _ e)).trans e
  obtain ⟨a, b, c⟩ := h
  exact ⟨f _ _ a, f _ _ b, f _ _ c⟩
theorem keepB {N8 : Nat} {p : Pr} {w w' : World} (h : w.cell? ⟨N8, 0, none⟩ = some (.string p.1) ∧ w.cell? ⟨N8, 1, none⟩ = some (.string p.2)) (hB : Below w.heap.size w w') : w'.cell? ⟨N8, 0, none⟩ = some (.string p.1) ∧ w'.cell? ⟨N8, 1, none⟩ = some (.string p.2) :=
  ⟨(hB.cell (World.block_lt_of_cell? w _ h.1)).trans h.1, (hB.cell (World.block_lt_of_cell? w _ h.2)).trans h.2⟩
theorem rf_rb {N : Nat → Prop} {w : World} {P : Nat → Option Pr} {K : Nat → RT} {T : Nat} (h : RfN N w (.inner P K) T) : ∃ f, RB w T f := by
  obtain ⟨f, h1, _⟩ := h
  exact ⟨f, h1⟩
theorem rf_ne {N : Nat → Prop} {w : World} {P : Nat → Option Pr} {K : Nat → RT} {T g : Nat} {t : TypeId} {cs : Array Value} (h : RfN N w (.inner P K) T) (hb : Blk w g t cs) (ht : t ≠ 60) : g ≠ T := by
  rintro rfl
  obtain ⟨f, h1⟩ := rf_rb h
  unfold RB at h1
  unfold Blk at h1 hb
  rw [h1] at hb
  simp at hb
  exact ht hb.2.symm
theorem RootN.baseLe {base : Nat} {w : World} {P : Nat → Option Pr} {K : Nat → RT} {b : Nat} (h : RootN base w P K b) : base ≤ w.heap.size := by
  obtain ⟨ow, lo, S, pv, kv, hI, -⟩ := h
  have h1 := hI.footGe b (by simp [foot])
  have h2 := hI.footLt b (by simp [foot])
  omega

/-- what the loop has -/
def BI (w : World) (j b T : Nat) (wr : World) : Prop := ∃ (P : Nat → Option Pr) (K : Nat → RT) (n m : Nat), RootN w.heap.size wr P K b ∧ RfN (fun _ => False) wr (.inner P K) T ∧ Known (.inner P K) n m ∧ n ≤ 6 * j ∧ m ≤ 9 + 500 * j ∧ w.heap.size ≤ T ∧ Below w.heap.size w wr
set_option maxHeartbeats 64000000 in
theorem built_any (a : Option Addr) (len cap : Nat) (w : World) (hA : ArgW w a len cap) :
    Calls Tryz.prog 18 #[.slice a len cap] w fun e w' => ∃ b T, e = .returned (.tuple #[.pointer (some ⟨b, 0, none⟩), .pointer (some ⟨T, 0, none⟩)]) ∧ BI w 24 b T w' := by
  have hl1 := hA.len_le
  have HA := Lib.hid hA
  clear hA
  have kn := RootN.new (base := w.heap.size) (w := w) (Nat.le_refl _)
  unfold at0 at kn
  go_enter Tryz.func18, Tryz.ntmps18
  go_wp2_with fail
  refine kn.mono ?_
  rintro e w1 ⟨bk, rfl, hR, hB⟩
  have hBx := (Below.refl _ w1).alloc (Nat.le_refl _) (.cells (rcs (rb0 false (.slice none 0 0))).toArray 60)
  have hU := RfN.new (w := w1) (N := fun _ => False) (fun x hx => hx.elim)
  have hR := RootN.below hR hBx
  have hup : w.heap.size ≤ w1.heap.size := hB.size
  have hB := hB.trans (hBx.mono hB.size)
  have HBI : Hid (BI w 0 bk w1.heap.size (w1.alloc (.cells (rcs (rb0 false (.slice none 0 0))).toArray 60))) := Lib.hid ⟨_, _, _, _, hR, hU, Known.empty, by omega, by omega, hup, hB⟩
  clear kn hR hBx hU hB hup
  go_upto_region 2 with (first
  | (with_reducible refine wpList_runAt rfl _ rfl _ _ (build133n _ _ _ rfl) ?_)
  | (with_reducible refine wpList_runAt rfl _ rfl _ _ (build133b _ _ _ _ rfl rfl) ?_)
  | (with_reducible refine wpList_runAt rfl _ rfl _ _ (box133 _ _ _ _ _ rfl rfl) ?_))
  generalize w1.alloc (.cells (rcs (rb0 false (.slice none 0 0))).toArray 60) = W1 at *
  generalize w1.heap.size = up at *
  go_wp2_with fail
  go_loopw [4, 5, 21] (fun v4 v5 vi wr => ∃ (j b T : Nat), j ≤ len ∧ j ≤ 24 ∧ vi = .int .i64 j ∧ v4 = .pointer (some ⟨b, 0, none⟩) ∧ v5 = .pointer (some ⟨T, 0, none⟩) ∧ BI w j b T wr) (fun v4 v5 vi wr => len - (intOf vi).toNat)
  case atStart => exact ⟨0, bk, up, by omega, by omega, rfl, rfl, rfl, HBI.out⟩
  case round =>
    clear HBI
    obtain ⟨j, b, T, hj, hj24, rfl, rfl, rfl, HBI'⟩ := hrel
    have HBI := Lib.hid HBI'
    clear HBI'
    by_cases hlt : j < len
    · obtain ⟨Pf, Kf, n0, m0, hR, hF, hk, hn0, hm0, hTge, hB⟩ := HBI.out
      obtain ⟨x, dd, ii, q, ab, lb, cb, ps, rfl, hdd, hii, c0, c1, c2, c3, c4, hps⟩ := HA.out.at hB j hlt
      have HPS := Lib.hid hps
      have L1 : (j : Int) < (len : Int) := by omega
      have L2 : IntKind.i64.wrap ((j : Int) + 1) = ((j + 1 : Nat) : Int) := by rw [IntWalk.i64_in _ (by unfold maxLen at hl1; omega)]; omega
      go_upto_region 5 with (fail)
      have hBl := (Below.refl _ wr).alloc (Nat.le_refl _) (.cells #[.int .u8 dd, .int .u8 ii, .string q.1, .string q.2, .slice ab lb cb] 88)
      have hAct := Blk.new wr 88 #[.int .u8 dd, .int .u8 ii, .string q.1, .string q.2, .slice ab lb cb]
      clear c0 c1 c2 c3 c4
      by_cases h24 : j < 24
      · have G : ¬ ((24 : Int) ≤ (j : Int)) := by omega
        have hF := RfN.below _ hF hBl
        have hR := RootN.below hR hBl
        have hps := hps.below hB
        have hps := hps.below hBl
        have hB := hB.trans (hBl.mono hB.size)
        clear hBl HBI
        generalize wr.alloc (.cells #[.int .u8 dd, .int .u8 ii, .string q.1, .string q.2, .slice ab lb cb] 88) = W3 at *
        generalize wr.heap.size = N7 at *
        obtain ⟨c, hc⟩ : ∃ c, c = ii % 32 := ⟨_, rfl⟩
        have hc32 : c < 32 := by rw [hc]; exact Nat.mod_lt _ (by decide)
        have L32 : (c : Int) < 32 := by omega
        have M1 : (ii : Int) % 32 = (c : Int) := by omega
        have M2 : IntKind.i64.wrap (c : Int) = (c : Int) := by rw [IntWalk.i64_in _ (by omega)]
        obtain ⟨d, hd⟩ : ∃ d, d = dd % 6 := ⟨_, rfl⟩
        have hd6 : d < 6 := by rw [hd]; exact Nat.mod_lt _ (by decide)
        have M4 : (dd : Int) % 6 = (d : Int) := by omega
        clear hc hd
        have d0 : W3.cell? ⟨N7, 0, none⟩ = some (.int .u8 dd) := hAct.cell 0
        have d1 : W3.cell? ⟨N7, 1, none⟩ = some (.int .u8 ii) := hAct.cell 1
        have d2 : W3.cell? ⟨N7, 2, none⟩ = some (.string q.1) := hAct.cell 2
        have d3 : W3.cell? ⟨N7, 3, none⟩ = some (.string q.2) := hAct.cell 3
        have kfew := few_any q W3
        have hp1 : (few40 q).1.size ≤ 40 := cut40_size _
        have hp2 : (few40 q).2.size ≤ 40 := cut40_size _
        generalize few40 q = p at *
        go_wp2_with fail
        refine kfew.mono ?_
        rintro e w4 ⟨rfl, hB4⟩
        clear kfew d0 d1 d2 d3
        go_upto_region 8 with (fail)
        have hBl := hB4.alloc hB4.size (.cells #[.string p.1, .string p.2] 52)
        have hP := Blk.new w4 52 #[.string p.1, .string p.2]
        have hF := RfN.below _ hF hBl
        have hR := RootN.below hR hBl
        have hAct := hAct.below hBl
        have hps := hps.below hBl
        have hB := hB.trans (hBl.mono hB.size)
        clear hBl hB4
        generalize w4.alloc (.cells #[.string p.1, .string p.2] 52) = W5 at *
        generalize w4.heap.size = N9 at *
        have d0 : W5.cell? ⟨N7, 0, none⟩ = some (.int .u8 dd) := hAct.cell 0
        match d, hd6 with
        | 3, hd6 =>
          clear hAct hps
          have kn := RootN.new (base := w.heap.size) (w := W5) hB.size
          unfold at0 at kn
          clear hP hp1 hp2
          go_wp2_with fail
          refine kn.mono ?_
          rintro e w6 ⟨bk, rfl, hKd, hB6⟩
          have hF := RfN.below _ hF hB6
          have hR := RootN.below hR hB6
          have hB := hB.trans (hB6.mono hB.size)
          have kc := hKd.setKid (.inner Pf Kf) b c hc32 (RootN.baseLe hKd) rfl hR.node
          unfold at0 at kc
          clear kn hB6 hKd hR
          go_wp2_with fail
          refine kc.mono ?_
          rintro e w7 ⟨b1, rfl, hR, hB7⟩
          have hF := RfN.below _ hF hB7
          have hB := hB.trans (hB7.mono hB.size)
          have hF := RfN.less (N' := fun x => False ∨ x = w7.heap.size) _ _ (fun x hx => by rcases hx with h | rfl; exact h.elim; exact .inr (Nat.le_refl _)) _ hF
          have hBx := (Below.refl _ w7).alloc (Nat.le_refl _) (.cells (rcs (rb0 false (.slice none 0 0))).toArray 60)
          have hU := RfN.new (w := w7) (N := fun _ => False) (fun x hx => hx.elim)
          have hF := RfN.below _ hF hBx
          have hR := RootN.below hR hBx
          have hup : w.heap.size ≤ w7.heap.size := hB.size
          have hB := hB.trans (hBx.mono hB.size)
          clear kc hB7 hBx
          go_upto_region 14 with (first
            | (with_reducible refine wpList_runAt rfl _ rfl _ _ (build133n _ _ _ rfl) ?_)
            | (with_reducible refine wpList_runAt rfl _ rfl _ _ (build133b _ _ _ _ rfl rfl) ?_)
            | (with_reducible refine wpList_runAt rfl _ rfl _ _ (box133 _ _ _ _ _ rfl rfl) ?_))
          generalize w7.alloc (.cells (rcs (rb0 false (.slice none 0 0))).toArray 60) = W8 at *
          generalize w7.heap.size = up at *
          obtain ⟨f, hRB⟩ := rf_rb hU
          have z2 := hRB.cell (2 + c) (by omega)
          have y2 := hRB.frozen (2 + c)
          have z3 := hRB.cell (34 + c * 2) (by omega)
          have y3 := hRB.frozen (34 + c * 2)
          have z4 := hRB.cell (34 + c * 2 + 1) (by omega)
          have y4 := hRB.frozen (34 + c * 2 + 1)
          have z5 := hRB.cell (98 + c) (by omega)
          have y5 := hRB.frozen (98 + c)
          have hk2 : Keep [up] W8 ((W8.setCell ⟨up, 2 + c, none⟩ (.int .i64 2)).setCell ⟨up, 98 + c, none⟩ (.pointer (some ⟨T, 0, none⟩))) := (((Keep.refl [up] W8).setCell (p := ⟨up, 2 + c, none⟩) (by simp) (.int .i64 2)).setCell (p := ⟨up, 98 + c, none⟩) (by simp) (.pointer (some ⟨T, 0, none⟩)))
          have hF2 := hU.setKid hc32 hF
          have hR2 := RootN.keepT hR hk2 (fun x hx => by obtain rfl := List.mem_singleton.1 hx; exact ⟨_, hRB⟩)
          have hB2 : Below w.heap.size w ((W8.setCell ⟨up, 2 + c, none⟩ (.int .i64 2)).setCell ⟨up, 98 + c, none⟩ (.pointer (some ⟨T, 0, none⟩))) := ((hB.setCell (p := ⟨up, 2 + c, none⟩) hup (.int .i64 2)).setCell (p := ⟨up, 98 + c, none⟩) hup (.pointer (some ⟨T, 0, none⟩)))
          have hdr := (Below.refl ((W8.setCell ⟨up, 2 + c, none⟩ (.int .i64 2)).setCell ⟨up, 98 + c, none⟩ (.pointer (some ⟨T, 0, none⟩))).heap.size ((W8.setCell ⟨up, 2 + c, none⟩ (.int .i64 2)).setCell ⟨up, 98 + c, none⟩ (.pointer (some ⟨T, 0, none⟩)))).drew
          have HF2 := Lib.hid (RfN.below _ hF2 hdr)
          have HR2 := Lib.hid (RootN.below hR2 hdr)
          have HB2 := Lib.hid hB2.drew
          clear hk2 hF2 hR2 hB2 hdr hRB hF hR hB
          clear hU
          refine wp_region_late (S := fun w' => True) (st := 8) (by kernel_rfl) ?_
          have hS : True := trivial
          refine wpAnyL_take0 (i := 0) (oi := { dst := some 61, op := Go.Op.move (Go.Operand.tmp 10), type := 37, pos := "law.go:81", after := #[], guard := none }) (v := .pointer (some ⟨up, 0, none⟩)) rfl (by kernel_rfl) (by kernel_rfl) (by kernel_rfl) (by kernel_rfl) (fun _ _ _ h => h) hS (Or.inl ⟨by rfl, fun w hSw => ?_⟩) ?_
          · go_split_ands
            go_simp
          try simp only [Act.put, List.setIfInBounds_toArray, List.set_cons_zero, List.set_cons_succ]
          refine wpAnyL_take0 (i := 1) (oi := { dst := some 62, op := Go.Op.move (Go.Operand.tmp 8), type := 3, pos := "law.go:81", after := #[], guard := none }) (v := .int .i64 c) rfl (by kernel_rfl) (by kernel_rfl) (by kernel_rfl) (by kernel_rfl) (fun _ _ _ h => h) hS (Or.inl ⟨by rfl, fun w hSw => ?_⟩) ?_
          · go_split_ands
            go_simp
          try simp only [Act.put, List.setIfInBounds_toArray, List.set_cons_zero, List.set_cons_succ]
          refine wpAnyL_take0 (i := 2) (oi := { dst := some 63, op := Go.Op.move (Go.Operand.tmp 10), type := 37, pos := "law.go:81", after := #[{ on := 8, ground := Go.Ground.gcOnly Go.Departure.lateStores }], guard := none }) (v := .pointer (some ⟨up, 0, none⟩)) rfl (by kernel_rfl) (by kernel_rfl) (by kernel_rfl) (by kernel_rfl) (fun _ _ _ h => h) hS (Or.inl ⟨by rfl, fun w hSw => ?_⟩) ?_
          · go_split_ands
            go_simp
          try simp only [Act.put, List.setIfInBounds_toArray, List.set_cons_zero, List.set_cons_succ]
          refine wpAnyL_take0 (i := 3) (oi := { dst := some 64, op := Go.Op.move (Go.Operand.tmp 8), type := 3, pos := "law.go:81", after := #[{ on := 8, ground := Go.Ground.gcOnly Go.Departure.lateStores }], guard := none }) (v := .int .i64 c) rfl (by kernel_rfl) (by kernel_rfl) (by kernel_rfl) (by kernel_rfl) (fun _ _ _ h => h) hS (Or.inl ⟨by rfl, fun w hSw => ?_⟩) ?_
          · go_split_ands
            go_simp
          try simp only [Act.put, List.setIfInBounds_toArray, List.set_cons_zero, List.set_cons_succ]
          refine wpAnyL_take0 (i := 4) (oi := { dst := some 65, op := Go.Op.move (Go.Operand.tmp 5), type := 37, pos := "law.go:81", after := #[{ on := 8, ground := Go.Ground.gcOnly Go.Departure.lateStores }], guard := none }) (v := .pointer (some ⟨T, 0, none⟩)) rfl (by kernel_rfl) (by kernel_rfl) (by kernel_rfl) (by kernel_rfl) (fun _ _ _ h => h) hS (Or.inl ⟨by rfl, fun w hSw => ?_⟩) ?_
          · go_split_ands
            go_simp
          try simp only [Act.put, List.setIfInBounds_toArray, List.set_cons_zero, List.set_cons_succ]
          refine wpAnyL_take0 (i := 5) (oi := { dst := some 66, op := Go.Op.nilCheck (Go.Operand.tmp 61), type := 0, pos := "law.go:81", after := #[{ on := 0, ground := Go.Ground.data }], guard := none }) (v := .pointer (some ⟨up, 0, none⟩)) rfl (by kernel_rfl) (by kernel_rfl) (by kernel_rfl) (by kernel_rfl) (fun _ _ _ h => h) hS (Or.inl ⟨by rfl, fun w hSw => ?_⟩) ?_
          · go_split_ands
            go_simp
          try simp only [Act.put, List.setIfInBounds_toArray, List.set_cons_zero, List.set_cons_succ]
          refine wpAnyL_take0 (i := 6) (oi := { dst := some 67, op := Go.Op.fieldAddr 60 (Go.Operand.tmp 66) 2, type := 0, pos := "law.go:81", after := #[{ on := 5, ground := Go.Ground.data }], guard := none }) (v := .pointer (some ⟨up, 2, none⟩)) rfl (by kernel_rfl) (by kernel_rfl) (by kernel_rfl) (by kernel_rfl) (fun _ _ _ h => h) hS (Or.inl ⟨by rfl, fun w hSw => ?_⟩) ?_
          · go_split_ands
            go_simp
          try simp only [Act.put, List.setIfInBounds_toArray, List.set_cons_zero, List.set_cons_succ]
          refine wpAnyL_take0 (i := 9) (oi := { dst := some 69, op := Go.Op.nilCheck (Go.Operand.tmp 63), type := 0, pos := "law.go:81", after := #[{ on := 2, ground := Go.Ground.data }], guard := none }) (v := .pointer (some ⟨up, 0, none⟩)) rfl (by kernel_rfl) (by kernel_rfl) (by kernel_rfl) (by kernel_rfl) (fun _ _ _ h => h) hS (Or.inl ⟨by rfl, fun w hSw => ?_⟩) ?_
          · go_split_ands
            go_simp
          try simp only [Act.put, List.setIfInBounds_toArray, List.set_cons_zero, List.set_cons_succ]
          refine wpAnyL_take0 (i := 10) (oi := { dst := some 70, op := Go.Op.fieldAddr 60 (Go.Operand.tmp 69) 4, type := 0, pos := "law.go:81", after := #[{ on := 9, ground := Go.Ground.data }], guard := none }) (v := .pointer (some ⟨up, 98, none⟩)) rfl (by kernel_rfl) (by kernel_rfl) (by kernel_rfl) (by kernel_rfl) (fun _ _ _ h => h) hS (Or.inl ⟨by rfl, fun w hSw => ?_⟩) ?_
          · go_split_ands
            go_simp
          try simp only [Act.put, List.setIfInBounds_toArray, List.set_cons_zero, List.set_cons_succ]
          refine wpAnyL_ready (rs := [7]) (by kernel_rfl) (by simp) ?_
          refine AllReadyL.cons (o := { dst := some 68, op := Go.Op.indexAddr 56 (Go.Operand.tmp 67) (Go.Operand.tmp 62), type := 0, pos := "law.go:81", after := #[{ on := 6, ground := Go.Ground.data }, { on := 1, ground := Go.Ground.data }, { on := 0, ground := Go.Ground.phase }, { on := 1, ground := Go.Ground.phase }, { on := 2, ground := Go.Ground.textOnly Go.Departure.lateStores }, { on := 3, ground := Go.Ground.textOnly Go.Departure.lateStores }, { on := 4, ground := Go.Ground.textOnly Go.Departure.lateStores }], guard := none }) rfl (fun K hK => ?_) AllReadyL.nil
          go_simp
          refine hK.out _ _ (fun _ => trivial) ?_
          clear hK K
          try simp only [Act.put, List.setIfInBounds_toArray, List.set_cons_zero, List.set_cons_succ]
          refine wpAnyL_ready (rs := [8]) (by kernel_rfl) (by simp) ?_
          refine AllReadyL.cons (o := { dst := none, op := Go.Op.store 3 (Go.Operand.tmp 68) (Go.Operand.const (Go.Value.int Go.IntKind.i64 2)), type := 0, pos := "law.go:81", after := #[{ on := 7, ground := Go.Ground.data }, { on := 0, ground := Go.Ground.phase }, { on := 1, ground := Go.Ground.phase }, { on := 2, ground := Go.Ground.textOnly Go.Departure.lateStores }, { on := 3, ground := Go.Ground.textOnly Go.Departure.lateStores }, { on := 4, ground := Go.Ground.textOnly Go.Departure.lateStores }], guard := none }) rfl (fun K hK => ?_) AllReadyL.nil
          go_simp
          refine hK.out _ _ (late_no (by kernel_rfl)) ?_
          clear hK K
          try simp only [Act.put, List.setIfInBounds_toArray, List.set_cons_zero, List.set_cons_succ]
          refine wpAnyL_ready (rs := [11]) (by kernel_rfl) (by simp) ?_
          refine AllReadyL.cons (o := { dst := some 71, op := Go.Op.indexAddr 58 (Go.Operand.tmp 70) (Go.Operand.tmp 64), type := 0, pos := "law.go:81", after := #[{ on := 10, ground := Go.Ground.data }, { on := 3, ground := Go.Ground.data }, { on := 0, ground := Go.Ground.phase }, { on := 1, ground := Go.Ground.phase }, { on := 2, ground := Go.Ground.phase }, { on := 3, ground := Go.Ground.phase }, { on := 4, ground := Go.Ground.phase }, { on := 5, ground := Go.Ground.phase }, { on := 6, ground := Go.Ground.phase }, { on := 7, ground := Go.Ground.phase }, { on := 8, ground := Go.Ground.phase }], guard := none }) rfl (fun K hK => ?_) AllReadyL.nil
          go_simp
          refine hK.out _ _ (late_no (by kernel_rfl)) ?_
          clear hK K
          try simp only [Act.put, List.setIfInBounds_toArray, List.set_cons_zero, List.set_cons_succ]
          refine wpAnyL_ready (rs := [12]) (by kernel_rfl) (by simp) ?_
          refine AllReadyL.cons (o := { dst := none, op := Go.Op.store 37 (Go.Operand.tmp 71) (Go.Operand.tmp 65), type := 0, pos := "law.go:81", after := #[{ on := 11, ground := Go.Ground.data }, { on := 4, ground := Go.Ground.data }, { on := 8, ground := Go.Ground.chain }, { on := 0, ground := Go.Ground.phase }, { on := 1, ground := Go.Ground.phase }, { on := 2, ground := Go.Ground.phase }, { on := 3, ground := Go.Ground.phase }, { on := 4, ground := Go.Ground.phase }, { on := 5, ground := Go.Ground.phase }, { on := 6, ground := Go.Ground.phase }, { on := 7, ground := Go.Ground.phase }, { on := 8, ground := Go.Ground.phase }], guard := none }) rfl (fun K hK => ?_) AllReadyL.nil
          go_simp
          refine hK.out _ _ (late_no (by kernel_rfl)) ?_
          clear hK K
          try simp only [Act.put, List.setIfInBounds_toArray, List.set_cons_zero, List.set_cons_succ]
          refine wpAnyL_done (by kernel_rfl) ?_ _
          clear z2 y2 z3 y3 z4 y4 z5 y5
          clear hS
          generalize ((W8.setCell ⟨up, 2 + c, none⟩ (.int .i64 2)).setCell ⟨up, 98 + c, none⟩ (.pointer (some ⟨T, 0, none⟩))).drew = W9 at *
          have hkn := Known.empty.set (c := c) (x := none) hk (.inl rfl) (fun p' e => by cases e)
          have HBI : Hid (BI w (j + 1) b1 up W9) := Lib.hid ⟨_, _, _, _, HR2.out, HF2.out, hkn, by omega, by omega, hup, HB2.out⟩
          clear HR2 HF2 HB2 hkn hk
          try dsimp only
          go_wp2_with fail
          exact ⟨⟨j + 1, b1, up, by omega, by omega, by go_num, rfl, rfl, HBI.out⟩, by simp [intOf]; omega⟩

        | 4, hd6 =>
          clear hP hp1 hp2 d0
          have kn := BkN.new (base := w.heap.size) (w := W5) hB.size
          unfold at0 at kn
          have d0 : W5.cell? ⟨N7, 0, none⟩ = some (.int .u8 dd) := hAct.cell 0
          go_wp2_with fail
          refine kn.mono ?_
          rintro e w6 ⟨bb, rfl, hBk, hB6⟩
          have hF := RfN.below _ hF hB6
          have hR := RootN.below hR hB6
          have hAct := hAct.below hB6
          have hB := hB.trans (hB6.mono hB.size)
          have hF := RfN.less (N' := fun x => x = w6.heap.size) _ _ (fun x hx => .inr (by subst hx; exact Nat.le_refl _)) _ hF
          have hTl := RfN.lt hF
          have hBx := (Below.refl _ w6).alloc (Nat.le_refl _) (.cells (rcs (rb0 true (.slice none 0 0))).toArray 60)
          have hX : BkR w6.heap.size (fun x => False ∨ x = T) (w6.alloc (.cells (rcs (rb0 true (.slice none 0 0))).toArray 60)) [] w6.heap.size := ⟨_, .slice none 0 0, RB.new w6 _, fun h => by rcases h with h | h; exact h; omega, rfl, rfl, OwnR.nil _ _, fun c hc => by unfold rb0; rw [if_neg (by omega), if_neg (by omega), if_pos (by omega)]⟩
          have hF := RfN.below _ hF hBx
          have hR := RootN.below hR hBx
          have hBk := BkN.below hBk hBx
          have hAct := hAct.below hBx
          have hbx : w.heap.size ≤ w6.heap.size := hB.size
          have hB := hB.trans (hBx.mono hB.size)
          clear kn hB6 hBx d0
          go_upto_region 18 with (first
            | (with_reducible refine wpList_runAt rfl _ rfl _ _ (build133n _ _ _ rfl) ?_)
            | (with_reducible refine wpList_runAt rfl _ rfl _ _ (build133b _ _ _ _ rfl rfl) ?_)
            | (with_reducible refine wpList_runAt rfl _ rfl _ _ (box133 _ _ _ _ _ rfl rfl) ?_))
          generalize w6.alloc (.cells (rcs (rb0 true (.slice none 0 0))).toArray 60) = W7 at *
          generalize w6.heap.size = bx at *
          have d4 : W7.cell? ⟨N7, 4, none⟩ = some (.slice ab lb cb) := hAct.cell 4
          have hl2 := HPS.out.len_le
          go_wp2_with fail
          clear hAct d4
          go_loopw [11, 81] (fun v11 vi wr2 => ∃ (k bb : Nat) (L : List Pr), k ≤ lb ∧ vi = .int .i64 k ∧ v11 = .pointer (some ⟨bb, 0, none⟩) ∧ RisesL L ∧ L.length ≤ k ∧ L.length ≤ 4 ∧ Short L ∧ BkN w.heap.size wr2 L bb ∧ BkR bx (fun x => False ∨ x = T) wr2 L bx ∧ RootN w.heap.size wr2 Pf Kf b ∧ RfN (fun x => x = bx) wr2 (.inner Pf Kf) T ∧ Below w.heap.size w wr2) (fun v11 vi wr2 => lb - (intOf vi).toNat)
          case atStart => exact ⟨0, bb, [], by omega, rfl, rfl, rises_nil, by simp, by simp, fun p hp => by simp at hp, hBk, hX, hR, hF, hB⟩
          case round =>
            clear hBk hX hR hF hB
            obtain ⟨k, bb, L, hk5, rfl, rfl, hrL, hlk, hl4, hsL, hBk, hX, hR, hF, hB⟩ := hrel
            by_cases hlt2 : k < lb
            · obtain ⟨x', hlp, rfl, c0, c1⟩ := HPS.out.atL hB k hlt2
              have K1 : (k : Int) < (lb : Int) := by omega
              have K2 : IntKind.i64.wrap ((k : Int) + 1) = ((k + 1 : Nat) : Int) := by rw [IntWalk.i64_in _ (by omega)]; omega
              go_upto_region 21 with (fail)
              have hBl := (Below.refl _ wr).alloc (Nat.le_refl _) (.cells #[.string ps[k].1, .string ps[k].2] 52)
              have hQ := Blk.new wr 52 #[.string ps[k].1, .string ps[k].2]
              have hB := hB.trans (hBl.mono hB.size)
              replace hF := RfN.below _ hF hBl
              replace hR := RootN.below hR hBl
              replace hBk := BkN.below hBk hBl
              replace hX := BkR.below hX hBl
              clear hBl c0 c1
              generalize wr.alloc (.cells #[.string ps[k].1, .string ps[k].2] 52) = W8 at *
              generalize wr.heap.size = N14 at *
              by_cases h4 : k < 4
              · have G4 : (k : Int) < 4 := by omega
                have kf := fun w' => few_any ps[k] w'
                have hq1 : (few40 ps[k]).1.size ≤ 40 := cut40_size _
                have hq2 : (few40 ps[k]).2.size ≤ 40 := cut40_size _
                generalize few40 ps[k] = p' at *
                generalize ps[k] = q' at *
                have e0 : W8.cell? ⟨N14, 0, none⟩ = some (.string q'.1) := hQ.cell 0
                have e1 : W8.cell? ⟨N14, 1, none⟩ = some (.string q'.2) := hQ.cell 1
                have kf1 := kf W8
                go_wp2_with fail
                refine kf1.mono ?_
                rintro e w9 ⟨rfl, hB9⟩
                have hB := hB.trans (hB9.mono hB.size)
                replace hF := RfN.below _ hF hB9
                replace hR := RootN.below hR hB9
                replace hBk := BkN.below hBk hB9
                replace hX := BkR.below hX hB9
                replace hQ := hQ.below hB9
                have kp := BkN.put hBk p' hrL (by omega) hB.size
                unfold at0 Pr.v at kp
                clear kf1 e0 e1 hB9 hBk
                go_wp2_with fail
                refine kp.mono ?_
                rintro e w10 ⟨bb1, rfl, hBk, hB10⟩
                have hB := hB.trans (hB10.mono hB.size)
                replace hF := RfN.below _ hF hB10
                replace hR := RootN.below hR hB10
                replace hX := BkR.below hX hB10
                replace hQ := hQ.below hB10
                clear kp hB10
                go_upto_region 23 with (fail)
                have hdr := (Below.refl w10.heap.size w10).drew
                have hF := RfN.below _ hF hdr
                have hR := RootN.below hR hdr
                have hBk := BkN.below hBk hdr
                have hX := BkR.below hX hdr
                have hQ := hQ.below hdr
                have hB := hB.drew
                clear hdr
                obtain ⟨f, v, hRBx, hNx, hf0, hf1, hOx, hfc⟩ := hX
                obtain ⟨A5, c5, rfl, hR5⟩ := hOx.rd
                have z1 : w10.drew.cell? ⟨bx, 1, none⟩ = some (.slice A5 L.length c5) := by rw [hRBx.cell 1 (by omega), hf1]
                obtain ⟨LL, hLL⟩ : ∃ LL, LL = L.length := ⟨_, rfl⟩
                have kr := fun w' (h : OwnR bx w' (.slice A5 LL c5) L) => refPut_any A5 c5 L p' w' (by
                  obtain ⟨A', c', e', hr'⟩ := h.rd
                  simp only [Value.slice.injEq] at e'
                  obtain ⟨rfl, -, -⟩ := e'
                  exact hr') (by omega) (sized_of fun x hx => Nat.le_trans (hsL x hx).1 (by unfold maxLen; omega)) (by unfold maxLen; omega)
                unfold Pr.v at kr
                rw [← hLL] at z1 hOx kr
                have HLL := Lib.hid hLL
                have hS0 : (fun w' : World => w'.cell? ⟨bx, 1, none⟩ = some (.slice A5 LL c5) ∧ w'.cell? ⟨N14, 0, none⟩ = some (.string q'.1) ∧ w'.cell? ⟨N14, 1, none⟩ = some (.string q'.2)) w10.drew := ⟨z1, hQ.cell 0, hQ.cell 1⟩
                clear hLL hR5 z1 hQ
                refine wp_region_late (S := (fun w' : World => w'.cell? ⟨bx, 1, none⟩ = some (.slice A5 LL c5) ∧ w'.cell? ⟨N14, 0, none⟩ = some (.string q'.1) ∧ w'.cell? ⟨N14, 1, none⟩ = some (.string q'.2))) (st := 10) (by kernel_rfl) ?_
                have hS := hS0
                refine wpAnyL_take0 (i := 0) (oi := { dst := some 92, op := Go.Op.move (Go.Operand.tmp 12), type := 37, pos := "law.go:88", after := #[], guard := none }) (v := .pointer (some ⟨bx, 0, none⟩)) rfl (by kernel_rfl) (by kernel_rfl) (by kernel_rfl) (by kernel_rfl) (fun _ _ _ h => h) hS (Or.inl ⟨by rfl, fun w hSw => ?_⟩) ?_
                · go_split_ands
                  go_simp
                try simp only [Act.put, List.setIfInBounds_toArray, List.set_cons_zero, List.set_cons_succ]
                refine wpAnyL_take0 (i := 1) (oi := { dst := some 93, op := Go.Op.move (Go.Operand.tmp 12), type := 37, pos := "law.go:88", after := #[], guard := none }) (v := .pointer (some ⟨bx, 0, none⟩)) rfl (by kernel_rfl) (by kernel_rfl) (by kernel_rfl) (by kernel_rfl) (fun _ _ _ h => h) hS (Or.inl ⟨by rfl, fun w hSw => ?_⟩) ?_
                · go_split_ands
                  go_simp
                try simp only [Act.put, List.setIfInBounds_toArray, List.set_cons_zero, List.set_cons_succ]
                refine wpAnyL_take0 (i := 2) (oi := { dst := some 94, op := Go.Op.nilCheck (Go.Operand.tmp 93), type := 0, pos := "law.go:88", after := #[{ on := 1, ground := Go.Ground.data }], guard := none }) (v := .pointer (some ⟨bx, 0, none⟩)) rfl (by kernel_rfl) (by kernel_rfl) (by kernel_rfl) (by kernel_rfl) (fun _ _ _ h => h) hS (Or.inl ⟨by rfl, fun w hSw => ?_⟩) ?_
                · go_split_ands
                  go_simp
                try simp only [Act.put, List.setIfInBounds_toArray, List.set_cons_zero, List.set_cons_succ]
                refine wpAnyL_take0 (i := 3) (oi := { dst := some 95, op := Go.Op.fieldAddr 60 (Go.Operand.tmp 94) 1, type := 0, pos := "law.go:88", after := #[{ on := 2, ground := Go.Ground.data }], guard := none }) (v := .pointer (some ⟨bx, 1, none⟩)) rfl (by kernel_rfl) (by kernel_rfl) (by kernel_rfl) (by kernel_rfl) (fun _ _ _ h => h) hS (Or.inl ⟨by rfl, fun w hSw => ?_⟩) ?_
                · go_split_ands
                  go_simp
                try simp only [Act.put, List.setIfInBounds_toArray, List.set_cons_zero, List.set_cons_succ]
                refine wpAnyL_take (i := 4) (oi := { dst := some 96, op := Go.Op.load 30 (Go.Operand.tmp 95), type := 30, pos := "law.go:88", after := #[{ on := 3, ground := Go.Ground.data }], guard := none }) (v := .slice A5 LL c5) rfl (by kernel_rfl) (by kernel_rfl) (by kernel_rfl) (by kernel_rfl) (fun _ _ _ h => h) hS (Or.inl ⟨by rfl, fun w hSw => ?_⟩) ?_
                · go_split_ands
                  go_simp
                try simp only [Act.put, List.setIfInBounds_toArray, List.set_cons_zero, List.set_cons_succ]
                refine wpAnyL_take (i := 5) (oi := { dst := some 97, op := Go.Op.load 52 (Go.Operand.tmp 14), type := 52, pos := "law.go:88", after := #[], guard := none }) (v := .agg #[.string q'.1, .string q'.2]) rfl (by kernel_rfl) (by kernel_rfl) (by kernel_rfl) (by kernel_rfl) (fun _ _ _ h => h) hS (Or.inl ⟨by rfl, fun w hSw => ?_⟩) ?_
                · go_split_ands
                  go_simp
                try simp only [Act.put, List.setIfInBounds_toArray, List.set_cons_zero, List.set_cons_succ]
                refine wpAnyL_ready (rs := [6]) (by kernel_rfl) (by simp) ?_
                refine AllReadyL.cons (o := { dst := some 98, op := Go.Op.call { callee := Go.Callee.value (Go.Operand.func 20), args := #[Go.Operand.tmp 97], argTypes := #[52] }, type := 52, pos := "law.go:88", after := #[{ on := 5, ground := Go.Ground.data }], guard := none }) rfl (fun K hK => ?_) AllReadyL.nil
                go_simp
                refine (kf _).mono ?_
                rintro e wA ⟨rfl, hBA⟩
                go_wp2_with fail
                have hSn := keepX hS hBA
                refine hK.out _ _ (fun _ => hSn) ?_
                clear hK K hS
                try simp only [Act.put, List.setIfInBounds_toArray, List.set_cons_zero, List.set_cons_succ]
                have hS := hSn
                clear hSn
                have hB := hB.trans (hBA.mono hB.size)
                replace hF := RfN.below _ hF hBA
                replace hR := RootN.below hR hBA
                replace hBk := BkN.below hBk hBA
                replace hRBx := hRBx.below hBA
                replace hOx := hOx.below' hBA
                refine wpAnyL_ready (rs := [7]) (by kernel_rfl) (by simp) ?_
                refine AllReadyL.cons (o := { dst := some 99, op := Go.Op.call { callee := Go.Callee.value (Go.Operand.func 30), args := #[Go.Operand.tmp 96, Go.Operand.tmp 98], argTypes := #[30, 55] }, type := 30, pos := "law.go:88", after := #[{ on := 4, ground := Go.Ground.data }, { on := 6, ground := Go.Ground.data }, { on := 6, ground := Go.Ground.chain }], guard := none }) rfl (fun K hK => ?_) AllReadyL.nil
                go_simp
                refine (kr _ hOx).mono ?_
                rintro e wC ⟨V7, rfl, hO7, hBC⟩
                obtain ⟨A7, c7, rfl, -⟩ := hO7.rd
                go_wp2_with fail
                have hSn := keepX hS hBC
                refine hK.out _ _ (fun _ => hSn) ?_
                clear hK K hS
                try simp only [Act.put, List.setIfInBounds_toArray, List.set_cons_zero, List.set_cons_succ]
                have hS := hSn
                clear hSn
                have hwA := hB.size
                have hwb := hRBx.lt
                have hB := hB.trans (hBC.mono hB.size)
                replace hF := RfN.below _ hF hBC
                replace hR := RootN.below hR hBC
                replace hBk := BkN.below hBk hBC
                replace hRBx := hRBx.below hBC
                refine wpAnyL_take0 (i := 8) (oi := { dst := some 100, op := Go.Op.nilCheck (Go.Operand.tmp 92), type := 0, pos := "law.go:88", after := #[{ on := 0, ground := Go.Ground.data }, { on := 0, ground := Go.Ground.phase }, { on := 1, ground := Go.Ground.phase }, { on := 2, ground := Go.Ground.phase }, { on := 3, ground := Go.Ground.phase }, { on := 4, ground := Go.Ground.phase }, { on := 5, ground := Go.Ground.phase }, { on := 6, ground := Go.Ground.phase }, { on := 7, ground := Go.Ground.phase }], guard := none }) (v := .pointer (some ⟨bx, 0, none⟩)) rfl (by kernel_rfl) (by kernel_rfl) (by kernel_rfl) (by kernel_rfl) (fun _ _ _ h => h) hS (Or.inl ⟨by rfl, fun w hSw => ?_⟩) ?_
                · go_split_ands
                  go_simp
                try simp only [Act.put, List.setIfInBounds_toArray, List.set_cons_zero, List.set_cons_succ]
                refine wpAnyL_take0 (i := 9) (oi := { dst := some 101, op := Go.Op.fieldAddr 60 (Go.Operand.tmp 100) 1, type := 0, pos := "law.go:88", after := #[{ on := 8, ground := Go.Ground.data }, { on := 0, ground := Go.Ground.phase }, { on := 1, ground := Go.Ground.phase }, { on := 2, ground := Go.Ground.phase }, { on := 3, ground := Go.Ground.phase }, { on := 4, ground := Go.Ground.phase }, { on := 5, ground := Go.Ground.phase }, { on := 6, ground := Go.Ground.phase }, { on := 7, ground := Go.Ground.phase }], guard := none }) (v := .pointer (some ⟨bx, 1, none⟩)) rfl (by kernel_rfl) (by kernel_rfl) (by kernel_rfl) (by kernel_rfl) (fun _ _ _ h => h) hS (Or.inl ⟨by rfl, fun w hSw => ?_⟩) ?_
                · go_split_ands
                  go_simp
                try simp only [Act.put, List.setIfInBounds_toArray, List.set_cons_zero, List.set_cons_succ]
                refine wpAnyL_ready (rs := [10]) (by kernel_rfl) (by simp) ?_
                refine AllReadyL.cons (o := { dst := none, op := Go.Op.store 30 (Go.Operand.tmp 101) (Go.Operand.tmp 99), type := 0, pos := "law.go:88", after := #[{ on := 9, ground := Go.Ground.data }, { on := 7, ground := Go.Ground.data }, { on := 7, ground := Go.Ground.chain }, { on := 0, ground := Go.Ground.phase }, { on := 1, ground := Go.Ground.phase }, { on := 2, ground := Go.Ground.phase }, { on := 3, ground := Go.Ground.phase }, { on := 4, ground := Go.Ground.phase }, { on := 5, ground := Go.Ground.phase }, { on := 6, ground := Go.Ground.phase }, { on := 7, ground := Go.Ground.phase }], guard := none }) rfl (fun K hK => ?_) AllReadyL.nil
                have hO7 := OwnR.base hO7 (Nat.le_of_lt hwb)
                have hk2 : Keep [bx] wC (wC.setCell ⟨bx, 1, none⟩ (.slice A7 (putK L p').length c7)) := (Keep.refl [bx] wC).setCell (p := ⟨bx, 1, none⟩) (by simp) (.slice A7 (putK L p').length c7)
                have hRBx' : Blk wC bx 60 _ := hRBx
                have hX2 : BkR bx (fun x => False ∨ x = T) (wC.setCell ⟨bx, 1, none⟩ (.slice A7 (putK L p').length c7)) (putK L p') bx := ⟨upd f 1 (.slice A7 (putK L p').length c7), _, hRBx.set 1 (.slice A7 (putK L p').length c7), hNx, by unfold upd; rw [if_neg (by omega)]; exact hf0, by unfold upd; rw [if_pos rfl], hO7.other hRBx' (by decide) hk2, fun c hc => by unfold upd; rw [if_neg (by omega)]; exact hfc c hc⟩
                have hKX : ∀ x ∈ [bx], ∃ cs, Blk wC x 60 cs := fun x hx => by obtain rfl := List.mem_singleton.1 hx; exact ⟨_, hRBx⟩
                have hR2 := RootN.keepT hR hk2 hKX
                have hBk2 := BkN.keepT hBk hk2 hKX
                have hF2 := RfN.keepN hk2.all.size _ _ (fun x hx hn => hk2.block x hx (by simpa using hn)) _ hF
                have hB2 : Below w.heap.size w (wC.setCell ⟨bx, 1, none⟩ (.slice A7 (putK L p').length c7)) := hB.setCell (p := ⟨bx, 1, none⟩) hbx (.slice A7 (putK L p').length c7)
                have z1 := hRBx.cell 1 (by omega)
                have y1 := hRBx.frozen 1
                have HX2 := Lib.hid hX2
                have HR2 := Lib.hid hR2
                have HK2 := Lib.hid hBk2
                have HF2 := Lib.hid hF2
                have HB2 := Lib.hid hB2
                clear hX2 hR2 hBk2 hF2 hB2 hKX hRBx' hk2 hR hF hBk hB hRBx hO7 hOx
                go_simp
                refine hK.out _ _ (late_no (by kernel_rfl)) ?_
                clear hK K
                try simp only [Act.put, List.setIfInBounds_toArray, List.set_cons_zero, List.set_cons_succ]
                refine wpAnyL_done (by kernel_rfl) ?_ _
                clear hS hS0 kr kf z1 y1
                generalize (wC.setCell ⟨bx, 1, none⟩ (.slice A7 (putK L p').length c7)) = W9 at *
                have hln := put_len (ps := L) p'
                go_wp2_with fail
                refine ⟨⟨k + 1, bb1, putK L p', by omega, by go_num, rfl, put_rises _ hrL, by omega, by omega, ?_, HK2.out, HX2.out, HR2.out, HF2.out, HB2.out⟩, by simp [intOf]; omega⟩
                intro x hx
                rcases put_sets.1 hx with rfl | ⟨h, _⟩
                · exact ⟨hq1, hq2⟩
                · exact hsL x h
              · have G4 : ¬ ((k : Int) < 4) := by omega
                clear hQ
                generalize ps[k] = q' at *
                go_wp2_with fail
                exact ⟨⟨k + 1, bb, L, by omega, by go_num, rfl, hrL, by omega, hl4, hsL, hBk, hX, hR, hF, hB⟩, by simp [intOf]; omega⟩
            · obtain rfl : k = lb := by omega
              have G5 : ¬ ((k : Int) < (k : Int)) := by omega
              have kc := hR.setKid (.bucket L) bb c hc32 (RootN.baseLe hR) rfl hBk.node
              unfold at0 at kc
              clear hR hBk
              go_wp2_with fail
              refine kc.mono ?_
              rintro e W8 ⟨b1, rfl, hR, hB8⟩
              have hF := RfN.less (N' := fun _ => False) _ _ (fun x hx => hx.elim) _ (RfN.below _ hF hB8)
              have hFx := BkR.rf (BkR.below hX hB8) (fun x hx => by rcases hx with h | rfl; exact h.elim; exact hTl)
              have hB := hB.trans (hB8.mono hB.size)
              clear kc hB8 hX
              obtain ⟨f, hRB⟩ := rf_rb hF
              have z2 := hRB.cell (2 + c) (by omega)
              have y2 := hRB.frozen (2 + c)
              have z3 := hRB.cell (34 + c * 2) (by omega)
              have y3 := hRB.frozen (34 + c * 2)
              have z4 := hRB.cell (34 + c * 2 + 1) (by omega)
              have y4 := hRB.frozen (34 + c * 2 + 1)
              have z5 := hRB.cell (98 + c) (by omega)
              have y5 := hRB.frozen (98 + c)
              have hk2 : Keep [T] W8 ((W8.setCell ⟨T, 2 + c, none⟩ (.int .i64 2)).setCell ⟨T, 98 + c, none⟩ (.pointer (some ⟨bx, 0, none⟩))) := (((Keep.refl [T] W8).setCell (p := ⟨T, 2 + c, none⟩) (by simp) (.int .i64 2)).setCell (p := ⟨T, 98 + c, none⟩) (by simp) (.pointer (some ⟨bx, 0, none⟩)))
              have hF2 := hF.setKid hc32 hFx
              have hR2 := RootN.keepT hR hk2 (fun x hx => by obtain rfl := List.mem_singleton.1 hx; exact ⟨_, hRB⟩)
              have hB2 : Below w.heap.size w ((W8.setCell ⟨T, 2 + c, none⟩ (.int .i64 2)).setCell ⟨T, 98 + c, none⟩ (.pointer (some ⟨bx, 0, none⟩))) := ((hB.setCell (p := ⟨T, 2 + c, none⟩) hTge (.int .i64 2)).setCell (p := ⟨T, 98 + c, none⟩) hTge (.pointer (some ⟨bx, 0, none⟩)))
              have hdr := (Below.refl ((W8.setCell ⟨T, 2 + c, none⟩ (.int .i64 2)).setCell ⟨T, 98 + c, none⟩ (.pointer (some ⟨bx, 0, none⟩))).heap.size ((W8.setCell ⟨T, 2 + c, none⟩ (.int .i64 2)).setCell ⟨T, 98 + c, none⟩ (.pointer (some ⟨bx, 0, none⟩)))).drew
              have HF2 := Lib.hid (RfN.below _ hF2 hdr)
              have HR2 := Lib.hid (RootN.below hR2 hdr)
              have HB2 := Lib.hid hB2.drew
              clear hk2 hF2 hR2 hB2 hdr hRB hF hR hB
              clear hFx
              go_upto_region 26 with (fail)
              refine wp_region_late (S := fun w' => True) (st := 8) (by kernel_rfl) ?_
              have hS : True := trivial
              refine wpAnyL_take0 (i := 0) (oi := { dst := some 107, op := Go.Op.move (Go.Operand.tmp 5), type := 37, pos := "law.go:92", after := #[], guard := none }) (v := .pointer (some ⟨T, 0, none⟩)) rfl (by kernel_rfl) (by kernel_rfl) (by kernel_rfl) (by kernel_rfl) (fun _ _ _ h => h) hS (Or.inl ⟨by rfl, fun w hSw => ?_⟩) ?_
              · go_split_ands
                go_simp
              try simp only [Act.put, List.setIfInBounds_toArray, List.set_cons_zero, List.set_cons_succ]
              refine wpAnyL_take0 (i := 1) (oi := { dst := some 108, op := Go.Op.move (Go.Operand.tmp 8), type := 3, pos := "law.go:92", after := #[], guard := none }) (v := .int .i64 c) rfl (by kernel_rfl) (by kernel_rfl) (by kernel_rfl) (by kernel_rfl) (fun _ _ _ h => h) hS (Or.inl ⟨by rfl, fun w hSw => ?_⟩) ?_
              · go_split_ands
                go_simp
              try simp only [Act.put, List.setIfInBounds_toArray, List.set_cons_zero, List.set_cons_succ]
              refine wpAnyL_take0 (i := 2) (oi := { dst := some 109, op := Go.Op.move (Go.Operand.tmp 5), type := 37, pos := "law.go:92", after := #[{ on := 8, ground := Go.Ground.gcOnly Go.Departure.lateStores }], guard := none }) (v := .pointer (some ⟨T, 0, none⟩)) rfl (by kernel_rfl) (by kernel_rfl) (by kernel_rfl) (by kernel_rfl) (fun _ _ _ h => h) hS (Or.inl ⟨by rfl, fun w hSw => ?_⟩) ?_
              · go_split_ands
                go_simp
              try simp only [Act.put, List.setIfInBounds_toArray, List.set_cons_zero, List.set_cons_succ]
              refine wpAnyL_take0 (i := 3) (oi := { dst := some 110, op := Go.Op.move (Go.Operand.tmp 8), type := 3, pos := "law.go:92", after := #[{ on := 8, ground := Go.Ground.gcOnly Go.Departure.lateStores }], guard := none }) (v := .int .i64 c) rfl (by kernel_rfl) (by kernel_rfl) (by kernel_rfl) (by kernel_rfl) (fun _ _ _ h => h) hS (Or.inl ⟨by rfl, fun w hSw => ?_⟩) ?_
              · go_split_ands
                go_simp
              try simp only [Act.put, List.setIfInBounds_toArray, List.set_cons_zero, List.set_cons_succ]
              refine wpAnyL_take0 (i := 4) (oi := { dst := some 111, op := Go.Op.move (Go.Operand.tmp 12), type := 37, pos := "law.go:92", after := #[{ on := 8, ground := Go.Ground.gcOnly Go.Departure.lateStores }], guard := none }) (v := .pointer (some ⟨bx, 0, none⟩)) rfl (by kernel_rfl) (by kernel_rfl) (by kernel_rfl) (by kernel_rfl) (fun _ _ _ h => h) hS (Or.inl ⟨by rfl, fun w hSw => ?_⟩) ?_
              · go_split_ands
                go_simp
              try simp only [Act.put, List.setIfInBounds_toArray, List.set_cons_zero, List.set_cons_succ]
              refine wpAnyL_take0 (i := 5) (oi := { dst := some 112, op := Go.Op.nilCheck (Go.Operand.tmp 107), type := 0, pos := "law.go:92", after := #[{ on := 0, ground := Go.Ground.data }], guard := none }) (v := .pointer (some ⟨T, 0, none⟩)) rfl (by kernel_rfl) (by kernel_rfl) (by kernel_rfl) (by kernel_rfl) (fun _ _ _ h => h) hS (Or.inl ⟨by rfl, fun w hSw => ?_⟩) ?_
              · go_split_ands
                go_simp
              try simp only [Act.put, List.setIfInBounds_toArray, List.set_cons_zero, List.set_cons_succ]
              refine wpAnyL_take0 (i := 6) (oi := { dst := some 113, op := Go.Op.fieldAddr 60 (Go.Operand.tmp 112) 2, type := 0, pos := "law.go:92", after := #[{ on := 5, ground := Go.Ground.data }], guard := none }) (v := .pointer (some ⟨T, 2, none⟩)) rfl (by kernel_rfl) (by kernel_rfl) (by kernel_rfl) (by kernel_rfl) (fun _ _ _ h => h) hS (Or.inl ⟨by rfl, fun w hSw => ?_⟩) ?_
              · go_split_ands
                go_simp
              try simp only [Act.put, List.setIfInBounds_toArray, List.set_cons_zero, List.set_cons_succ]
              refine wpAnyL_take0 (i := 9) (oi := { dst := some 115, op := Go.Op.nilCheck (Go.Operand.tmp 109), type := 0, pos := "law.go:92", after := #[{ on := 2, ground := Go.Ground.data }], guard := none }) (v := .pointer (some ⟨T, 0, none⟩)) rfl (by kernel_rfl) (by kernel_rfl) (by kernel_rfl) (by kernel_rfl) (fun _ _ _ h => h) hS (Or.inl ⟨by rfl, fun w hSw => ?_⟩) ?_
              · go_split_ands
                go_simp
              try simp only [Act.put, List.setIfInBounds_toArray, List.set_cons_zero, List.set_cons_succ]
              refine wpAnyL_take0 (i := 10) (oi := { dst := some 116, op := Go.Op.fieldAddr 60 (Go.Operand.tmp 115) 4, type := 0, pos := "law.go:92", after := #[{ on := 9, ground := Go.Ground.data }], guard := none }) (v := .pointer (some ⟨T, 98, none⟩)) rfl (by kernel_rfl) (by kernel_rfl) (by kernel_rfl) (by kernel_rfl) (fun _ _ _ h => h) hS (Or.inl ⟨by rfl, fun w hSw => ?_⟩) ?_
              · go_split_ands
                go_simp
              try simp only [Act.put, List.setIfInBounds_toArray, List.set_cons_zero, List.set_cons_succ]
              refine wpAnyL_ready (rs := [7]) (by kernel_rfl) (by simp) ?_
              refine AllReadyL.cons (o := { dst := some 114, op := Go.Op.indexAddr 56 (Go.Operand.tmp 113) (Go.Operand.tmp 108), type := 0, pos := "law.go:92", after := #[{ on := 6, ground := Go.Ground.data }, { on := 1, ground := Go.Ground.data }, { on := 0, ground := Go.Ground.phase }, { on := 1, ground := Go.Ground.phase }, { on := 2, ground := Go.Ground.textOnly Go.Departure.lateStores }, { on := 3, ground := Go.Ground.textOnly Go.Departure.lateStores }, { on := 4, ground := Go.Ground.textOnly Go.Departure.lateStores }], guard := none }) rfl (fun K hK => ?_) AllReadyL.nil
              go_simp
              refine hK.out _ _ (fun _ => trivial) ?_
              clear hK K
              try simp only [Act.put, List.setIfInBounds_toArray, List.set_cons_zero, List.set_cons_succ]
              refine wpAnyL_ready (rs := [8]) (by kernel_rfl) (by simp) ?_
              refine AllReadyL.cons (o := { dst := none, op := Go.Op.store 3 (Go.Operand.tmp 114) (Go.Operand.const (Go.Value.int Go.IntKind.i64 2)), type := 0, pos := "law.go:92", after := #[{ on := 7, ground := Go.Ground.data }, { on := 0, ground := Go.Ground.phase }, { on := 1, ground := Go.Ground.phase }, { on := 2, ground := Go.Ground.textOnly Go.Departure.lateStores }, { on := 3, ground := Go.Ground.textOnly Go.Departure.lateStores }, { on := 4, ground := Go.Ground.textOnly Go.Departure.lateStores }], guard := none }) rfl (fun K hK => ?_) AllReadyL.nil
              go_simp
              refine hK.out _ _ (late_no (by kernel_rfl)) ?_
              clear hK K
              try simp only [Act.put, List.setIfInBounds_toArray, List.set_cons_zero, List.set_cons_succ]
              refine wpAnyL_ready (rs := [11]) (by kernel_rfl) (by simp) ?_
              refine AllReadyL.cons (o := { dst := some 117, op := Go.Op.indexAddr 58 (Go.Operand.tmp 116) (Go.Operand.tmp 110), type := 0, pos := "law.go:92", after := #[{ on := 10, ground := Go.Ground.data }, { on := 3, ground := Go.Ground.data }, { on := 0, ground := Go.Ground.phase }, { on := 1, ground := Go.Ground.phase }, { on := 2, ground := Go.Ground.phase }, { on := 3, ground := Go.Ground.phase }, { on := 4, ground := Go.Ground.phase }, { on := 5, ground := Go.Ground.phase }, { on := 6, ground := Go.Ground.phase }, { on := 7, ground := Go.Ground.phase }, { on := 8, ground := Go.Ground.phase }], guard := none }) rfl (fun K hK => ?_) AllReadyL.nil
              go_simp
              refine hK.out _ _ (late_no (by kernel_rfl)) ?_
              clear hK K
              try simp only [Act.put, List.setIfInBounds_toArray, List.set_cons_zero, List.set_cons_succ]
              refine wpAnyL_ready (rs := [12]) (by kernel_rfl) (by simp) ?_
              refine AllReadyL.cons (o := { dst := none, op := Go.Op.store 37 (Go.Operand.tmp 117) (Go.Operand.tmp 111), type := 0, pos := "law.go:92", after := #[{ on := 11, ground := Go.Ground.data }, { on := 4, ground := Go.Ground.data }, { on := 8, ground := Go.Ground.chain }, { on := 0, ground := Go.Ground.phase }, { on := 1, ground := Go.Ground.phase }, { on := 2, ground := Go.Ground.phase }, { on := 3, ground := Go.Ground.phase }, { on := 4, ground := Go.Ground.phase }, { on := 5, ground := Go.Ground.phase }, { on := 6, ground := Go.Ground.phase }, { on := 7, ground := Go.Ground.phase }, { on := 8, ground := Go.Ground.phase }], guard := none }) rfl (fun K hK => ?_) AllReadyL.nil
              go_simp
              refine hK.out _ _ (late_no (by kernel_rfl)) ?_
              clear hK K
              try simp only [Act.put, List.setIfInBounds_toArray, List.set_cons_zero, List.set_cons_succ]
              refine wpAnyL_done (by kernel_rfl) ?_ _
              clear z2 y2 z3 y3 z4 y4 z5 y5
              clear hS
              generalize ((W8.setCell ⟨T, 2 + c, none⟩ (.int .i64 2)).setCell ⟨T, 98 + c, none⟩ (.pointer (some ⟨bx, 0, none⟩))).drew = W9 at *
              have hkn := hk.set (c := c) (x := none) (Known.bucket hrL hsL hl4) (.inl rfl) (fun p' e => by cases e)
              have HBI : Hid (BI w (j + 1) b1 T W9) := Lib.hid ⟨_, _, _, _, HR2.out, HF2.out, hkn, by omega, by omega, hTge, HB2.out⟩
              clear HR2 HF2 HB2 hkn hk
              try dsimp only
              go_wp2_with fail
              exact ⟨⟨j + 1, b1, T, by omega, by omega, by go_num, rfl, rfl, HBI.out⟩, by simp [intOf]; omega⟩

        | 5, hd6 =>
          clear hAct hps
          have kn := fun w' (hb : w.heap.size ≤ w'.heap.size) => RootN.new (base := w.heap.size) (w := w') hb
          have kp := fun w' b' (h : RootN w.heap.size w' (fun _ => none) (fun _ => RT.no) b') => h.setPair p c hc32 (RootN.baseLe h)
          have kk := fun w' b' (h : RootN w.heap.size w' Pf Kf b) (hk : RootN w.heap.size w' (setP (fun _ => none) c (some p)) (setK (fun _ => RT.no) c .no) b') => h.setKid (.inner (setP (fun _ => none) c (some p)) (setK (fun _ => RT.no) c .no)) b' c hc32 (RootN.baseLe h) rfl hk.node
          unfold at0 at kn kp kk
          unfold Pr.v at kp
          have hdr := (Below.refl W5.heap.size W5).drew
          have hS0 : (fun w' : World => w'.cell? ⟨N9, 0, none⟩ = some (.string p.1) ∧ w'.cell? ⟨N9, 1, none⟩ = some (.string p.2)) W5.drew := ⟨hP.cell 0, hP.cell 1⟩
          replace hP := hP.below hdr
          have hF := RfN.below _ hF hdr
          have hR := RootN.below hR hdr
          replace hB := hB.drew
          clear hdr
          go_upto_region 28 with (fail)
          refine wp_region_held_drew (S := (fun w' : World => w'.cell? ⟨N9, 0, none⟩ = some (.string p.1) ∧ w'.cell? ⟨N9, 1, none⟩ = some (.string p.2))) (by kernel_rfl) hS0 ?_
          intro hS
          refine wpAnyH_take (i := 0) (oi := { dst := some 120, op := Go.Op.move (Go.Operand.tmp 4), type := 29, pos := "law.go:94", after := #[], guard := none }) (v := .pointer (some ⟨b, 0, none⟩)) rfl (by kernel_rfl) (by kernel_rfl) (by kernel_rfl) (fun _ _ _ h => h) (Or.inl ⟨by rfl, fun w hSw => ?_⟩) hS ?_
          · go_split_ands
            go_simp
          try simp only [Act.put, List.setIfInBounds_toArray, List.set_cons_zero, List.set_cons_succ]
          refine wpAnyH_take (i := 1) (oi := { dst := some 121, op := Go.Op.move (Go.Operand.tmp 8), type := 3, pos := "law.go:94", after := #[], guard := none }) (v := .int .i64 c) rfl (by kernel_rfl) (by kernel_rfl) (by kernel_rfl) (fun _ _ _ h => h) (Or.inl ⟨by rfl, fun w hSw => ?_⟩) hS ?_
          · go_split_ands
            go_simp
          try simp only [Act.put, List.setIfInBounds_toArray, List.set_cons_zero, List.set_cons_succ]
          refine wpAnyH_take (i := 3) (oi := { dst := some 123, op := Go.Op.move (Go.Operand.tmp 8), type := 3, pos := "law.go:94", after := #[], guard := none }) (v := .int .i64 c) rfl (by kernel_rfl) (by kernel_rfl) (by kernel_rfl) (fun _ _ _ h => h) (Or.inl ⟨by rfl, fun w hSw => ?_⟩) hS ?_
          · go_split_ands
            go_simp
          try simp only [Act.put, List.setIfInBounds_toArray, List.set_cons_zero, List.set_cons_succ]
          refine wpAnyH_take (i := 4) (oi := { dst := some 124, op := Go.Op.load 52 (Go.Operand.tmp 9), type := 52, pos := "law.go:94", after := #[], guard := none }) (v := .agg #[.string p.1, .string p.2]) rfl (by kernel_rfl) (by kernel_rfl) (by kernel_rfl) (fun _ _ _ h => h) (Or.inl ⟨by rfl, fun w hSw => ?_⟩) hS ?_
          · go_split_ands
            go_simp
          try simp only [Act.put, List.setIfInBounds_toArray, List.set_cons_zero, List.set_cons_succ]
          refine wpAnyH_ready (rs := [2]) (by kernel_rfl) (by simp) ?_
          refine AllReadyH.cons (o := { dst := some 122, op := Go.Op.call { callee := Go.Callee.value (Go.Operand.func 24), args := #[], argTypes := #[] }, type := 29, pos := "law.go:94", after := #[], guard := none }) rfl (fun K hK => ?_) AllReadyH.nil
          go_simp
          refine (kn _ hB.size).mono ?_
          rintro e wA ⟨bk, rfl, hKd, hBA⟩
          go_wp2_with fail
          have hSn := keepB hS hBA
          refine hK.out _ _ hSn (fun _ => ?_)
          clear hK K hS
          try simp only [Act.put, List.setIfInBounds_toArray, List.set_cons_zero, List.set_cons_succ]
          have hS := hSn
          clear hSn
          have hB := hB.trans (hBA.mono hB.size)
          replace hF := RfN.below _ hF hBA
          replace hR := RootN.below hR hBA
          replace hP := hP.below hBA
          refine wpAnyH_ready (rs := [5]) (by kernel_rfl) (by simp) ?_
          refine AllReadyH.cons (o := { dst := some 125, op := Go.Op.call { callee := Go.Callee.value (Go.Operand.func 21), args := #[Go.Operand.tmp 122, Go.Operand.const (Go.Value.pointer none), Go.Operand.tmp 123, Go.Operand.tmp 124], argTypes := #[29, 69, 3, 52] }, type := 29, pos := "law.go:94", after := #[{ on := 2, ground := Go.Ground.data }, { on := 3, ground := Go.Ground.data }, { on := 4, ground := Go.Ground.data }, { on := 2, ground := Go.Ground.chain }], guard := none }) rfl (fun K hK => ?_) AllReadyH.nil
          go_simp
          refine (kp _ _ hKd).mono ?_
          rintro e wC ⟨bk1, rfl, hKd, hBC⟩
          go_wp2_with fail
          have hSn := keepB hS hBC
          refine hK.out _ _ hSn (fun _ => ?_)
          clear hK K hS
          try simp only [Act.put, List.setIfInBounds_toArray, List.set_cons_zero, List.set_cons_succ]
          have hS := hSn
          clear hSn
          have hB := hB.trans (hBC.mono hB.size)
          replace hF := RfN.below _ hF hBC
          replace hR := RootN.below hR hBC
          replace hP := hP.below hBC
          refine wpAnyH_ready (rs := [6]) (by kernel_rfl) (by simp) ?_
          refine AllReadyH.cons (o := { dst := some 126, op := Go.Op.call { callee := Go.Callee.value (Go.Operand.func 23), args := #[Go.Operand.tmp 120, Go.Operand.const (Go.Value.pointer none), Go.Operand.tmp 121, Go.Operand.tmp 125], argTypes := #[29, 69, 3, 29] }, type := 29, pos := "law.go:94", after := #[{ on := 0, ground := Go.Ground.data }, { on := 1, ground := Go.Ground.data }, { on := 5, ground := Go.Ground.data }, { on := 5, ground := Go.Ground.chain }], guard := none }) rfl (fun K hK => ?_) AllReadyH.nil
          go_simp
          refine (kk _ _ hR hKd).mono ?_
          rintro e wD ⟨b1, rfl, hR, hBD⟩
          go_wp2_with fail
          have hSn := keepB hS hBD
          refine hK.out _ _ hSn (fun _ => ?_)
          clear hK K hS
          try simp only [Act.put, List.setIfInBounds_toArray, List.set_cons_zero, List.set_cons_succ]
          have hS := hSn
          clear hSn
          have hB := hB.trans (hBD.mono hB.size)
          replace hF := RfN.below _ hF hBD
          replace hP := hP.below hBD
          clear hKd
          refine wpAnyH_take (i := 7) (oi := { dst := some 4, op := Go.Op.assign (Go.Operand.tmp 126), type := 29, pos := "law.go:94", after := #[{ on := 6, ground := Go.Ground.data }, { on := 6, ground := Go.Ground.chain }, { on := 0, ground := Go.Ground.phase }, { on := 1, ground := Go.Ground.phase }, { on := 2, ground := Go.Ground.phase }, { on := 3, ground := Go.Ground.phase }, { on := 4, ground := Go.Ground.phase }, { on := 5, ground := Go.Ground.phase }, { on := 6, ground := Go.Ground.phase }], guard := none }) (v := .pointer (some ⟨b1, 0, none⟩)) rfl (by kernel_rfl) (by kernel_rfl) (by kernel_rfl) (fun _ _ _ h => h) (Or.inl ⟨by rfl, fun w hSw => ?_⟩) hS ?_
          · go_split_ands
            go_simp
          try simp only [Act.put, List.setIfInBounds_toArray, List.set_cons_zero, List.set_cons_succ]
          refine wpAnyH_done (by kernel_rfl) ?_ _
          clear kn kp kk hS hS0
          have hF := RfN.less (N' := fun x => x = wD.heap.size) _ _ (fun x hx => .inr (by subst hx; exact Nat.le_refl _)) _ hF
          have hBx := (Below.refl _ wD).alloc (Nat.le_refl _) (.cells (rcs (rb0 false (.slice none 0 0))).toArray 60)
          have hTl := RfN.lt hF
          have hFx := RfN.new (w := wD) (N := fun x => False ∨ x = T) (fun x hx => by rcases hx with h | rfl; exact h.elim; exact hTl)
          have hF := RfN.below _ hF hBx
          have hR := RootN.below hR hBx
          have hP := hP.below hBx
          have hbx : w.heap.size ≤ wD.heap.size := hB.size
          have hB := hB.trans (hBx.mono hB.size)
          clear hBx hTl
          go_upto_region 30 with (first
            | (with_reducible refine wpList_runAt rfl _ rfl _ _ (build133n _ _ _ rfl) ?_)
            | (with_reducible refine wpList_runAt rfl _ rfl _ _ (build133b _ _ _ _ rfl rfl) ?_)
            | (with_reducible refine wpList_runAt rfl _ rfl _ _ (box133 _ _ _ _ _ rfl rfl) ?_))
          generalize wD.alloc (.cells (rcs (rb0 false (.slice none 0 0))).toArray 60) = Wx at *
          generalize wD.heap.size = bx at *
          obtain ⟨f, hRB⟩ := rf_rb hFx
          have z2 := hRB.cell (2 + c) (by omega)
          have y2 := hRB.frozen (2 + c)
          have z3 := hRB.cell (34 + c * 2) (by omega)
          have y3 := hRB.frozen (34 + c * 2)
          have z4 := hRB.cell (34 + c * 2 + 1) (by omega)
          have y4 := hRB.frozen (34 + c * 2 + 1)
          have z5 := hRB.cell (98 + c) (by omega)
          have y5 := hRB.frozen (98 + c)
          have hPT := rf_ne hFx hP (by decide)
          have q0 : Wx.cell? ⟨N9, 0, none⟩ = some (.string p.1) := hP.cell 0
          have q1 : Wx.cell? ⟨N9, 1, none⟩ = some (.string p.2) := hP.cell 1
          have hS8 : (Wx.drew.setCell ⟨bx, 2 + c, none⟩ (.int .i64 1)).cell? ⟨N9, 0, none⟩ = some (.string p.1) ∧ (Wx.drew.setCell ⟨bx, 2 + c, none⟩ (.int .i64 1)).cell? ⟨N9, 1, none⟩ = some (.string p.2) := by
            have h9 := (hP.below (Below.refl Wx.heap.size Wx).drew).far (p := ⟨bx, 2 + c, none⟩) hPT (.int .i64 1)
            exact ⟨h9.cell 0, h9.cell 1⟩
          have hk2 : Keep [bx] Wx (((Wx.setCell ⟨bx, 2 + c, none⟩ (.int .i64 1)).setCell ⟨bx, 34 + c * 2, none⟩ (.string p.1)).setCell ⟨bx, 34 + c * 2 + 1, none⟩ (.string p.2)) := ((((Keep.refl [bx] Wx).setCell (p := ⟨bx, 2 + c, none⟩) (by simp) (.int .i64 1)).setCell (p := ⟨bx, 34 + c * 2, none⟩) (by simp) (.string p.1)).setCell (p := ⟨bx, 34 + c * 2 + 1, none⟩) (by simp) (.string p.2))
          have hF2 := RfN.less (N' := fun _ => False) _ _ (fun x hx => hx.elim) _ (RfN.keepN hk2.all.size _ _ (fun x hx hn => hk2.block x hx (by simpa using hn)) _ hF)
          have hFx2 := hFx.setPair p hc32
          have hR2 := RootN.keepT hR hk2 (fun x hx => by obtain rfl := List.mem_singleton.1 hx; exact ⟨_, hRB⟩)
          have hB2 : Below w.heap.size w (((Wx.setCell ⟨bx, 2 + c, none⟩ (.int .i64 1)).setCell ⟨bx, 34 + c * 2, none⟩ (.string p.1)).setCell ⟨bx, 34 + c * 2 + 1, none⟩ (.string p.2)) := (((hB.setCell (p := ⟨bx, 2 + c, none⟩) hbx (.int .i64 1)).setCell (p := ⟨bx, 34 + c * 2, none⟩) hbx (.string p.1)).setCell (p := ⟨bx, 34 + c * 2 + 1, none⟩) hbx (.string p.2))
          have hdr := (Below.refl (((Wx.setCell ⟨bx, 2 + c, none⟩ (.int .i64 1)).setCell ⟨bx, 34 + c * 2, none⟩ (.string p.1)).setCell ⟨bx, 34 + c * 2 + 1, none⟩ (.string p.2)).heap.size (((Wx.setCell ⟨bx, 2 + c, none⟩ (.int .i64 1)).setCell ⟨bx, 34 + c * 2, none⟩ (.string p.1)).setCell ⟨bx, 34 + c * 2 + 1, none⟩ (.string p.2))).drew
          have HF2 := Lib.hid (RfN.below _ hF2 hdr)
          have HX2 := Lib.hid (RfN.below _ hFx2 hdr)
          have HR2 := Lib.hid (RootN.below hR2 hdr)
          have HB2 := Lib.hid hB2.drew
          clear hFx2 hFx hk2 hF2 hR2 hB2 hdr hRB hF hR hB
          clear hPT hP
          refine wp_region_late (S := fun w' => w'.cell? ⟨N9, 0, none⟩ = some (.string p.1) ∧ w'.cell? ⟨N9, 1, none⟩ = some (.string p.2)) (st := 12) (by kernel_rfl) ?_
          have hS : Wx.drew.cell? ⟨N9, 0, none⟩ = some (.string p.1) ∧ Wx.drew.cell? ⟨N9, 1, none⟩ = some (.string p.2) := ⟨q0, q1⟩
          refine wpAnyL_take0 (i := 0) (oi := { dst := some 129, op := Go.Op.move (Go.Operand.tmp 15), type := 37, pos := "law.go:96", after := #[], guard := none }) (v := .pointer (some ⟨bx, 0, none⟩)) rfl (by kernel_rfl) (by kernel_rfl) (by kernel_rfl) (by kernel_rfl) (fun _ _ _ h => h) hS (Or.inl ⟨by rfl, fun w hSw => ?_⟩) ?_
          · go_split_ands
            go_simp
          try simp only [Act.put, List.setIfInBounds_toArray, List.set_cons_zero, List.set_cons_succ]
          refine wpAnyL_take0 (i := 1) (oi := { dst := some 130, op := Go.Op.move (Go.Operand.tmp 8), type := 3, pos := "law.go:96", after := #[], guard := none }) (v := .int .i64 c) rfl (by kernel_rfl) (by kernel_rfl) (by kernel_rfl) (by kernel_rfl) (fun _ _ _ h => h) hS (Or.inl ⟨by rfl, fun w hSw => ?_⟩) ?_
          · go_split_ands
            go_simp
          try simp only [Act.put, List.setIfInBounds_toArray, List.set_cons_zero, List.set_cons_succ]
          refine wpAnyL_take0 (i := 2) (oi := { dst := some 131, op := Go.Op.move (Go.Operand.tmp 15), type := 37, pos := "law.go:96", after := #[{ on := 8, ground := Go.Ground.gcOnly Go.Departure.lateStores }], guard := none }) (v := .pointer (some ⟨bx, 0, none⟩)) rfl (by kernel_rfl) (by kernel_rfl) (by kernel_rfl) (by kernel_rfl) (fun _ _ _ h => h) hS (Or.inl ⟨by rfl, fun w hSw => ?_⟩) ?_
          · go_split_ands
            go_simp
          try simp only [Act.put, List.setIfInBounds_toArray, List.set_cons_zero, List.set_cons_succ]
          refine wpAnyL_take0 (i := 3) (oi := { dst := some 132, op := Go.Op.move (Go.Operand.tmp 8), type := 3, pos := "law.go:96", after := #[{ on := 8, ground := Go.Ground.gcOnly Go.Departure.lateStores }], guard := none }) (v := .int .i64 c) rfl (by kernel_rfl) (by kernel_rfl) (by kernel_rfl) (by kernel_rfl) (fun _ _ _ h => h) hS (Or.inl ⟨by rfl, fun w hSw => ?_⟩) ?_
          · go_split_ands
            go_simp
          try simp only [Act.put, List.setIfInBounds_toArray, List.set_cons_zero, List.set_cons_succ]
          refine wpAnyL_take (i := 4) (oi := { dst := some 133, op := Go.Op.load 52 (Go.Operand.tmp 9), type := 52, pos := "law.go:96", after := #[{ on := 8, ground := Go.Ground.gcOnly Go.Departure.lateStores }], guard := none }) (v := .agg #[.string p.1, .string p.2]) rfl (by kernel_rfl) (by kernel_rfl) (by kernel_rfl) (by kernel_rfl) (fun _ _ _ h => h) hS (Or.inl ⟨by rfl, fun w hSw => ?_⟩) ?_
          · go_split_ands
            go_simp
          try simp only [Act.put, List.setIfInBounds_toArray, List.set_cons_zero, List.set_cons_succ]
          refine wpAnyL_take0 (i := 5) (oi := { dst := some 134, op := Go.Op.nilCheck (Go.Operand.tmp 129), type := 0, pos := "law.go:96", after := #[{ on := 0, ground := Go.Ground.data }], guard := none }) (v := .pointer (some ⟨bx, 0, none⟩)) rfl (by kernel_rfl) (by kernel_rfl) (by kernel_rfl) (by kernel_rfl) (fun _ _ _ h => h) hS (Or.inl ⟨by rfl, fun w hSw => ?_⟩) ?_
          · go_split_ands
            go_simp
          try simp only [Act.put, List.setIfInBounds_toArray, List.set_cons_zero, List.set_cons_succ]
          refine wpAnyL_take0 (i := 6) (oi := { dst := some 135, op := Go.Op.fieldAddr 60 (Go.Operand.tmp 134) 2, type := 0, pos := "law.go:96", after := #[{ on := 5, ground := Go.Ground.data }], guard := none }) (v := .pointer (some ⟨bx, 2, none⟩)) rfl (by kernel_rfl) (by kernel_rfl) (by kernel_rfl) (by kernel_rfl) (fun _ _ _ h => h) hS (Or.inl ⟨by rfl, fun w hSw => ?_⟩) ?_
          · go_split_ands
            go_simp
          try simp only [Act.put, List.setIfInBounds_toArray, List.set_cons_zero, List.set_cons_succ]
          refine wpAnyL_take0 (i := 9) (oi := { dst := some 137, op := Go.Op.nilCheck (Go.Operand.tmp 131), type := 0, pos := "law.go:96", after := #[{ on := 2, ground := Go.Ground.data }], guard := none }) (v := .pointer (some ⟨bx, 0, none⟩)) rfl (by kernel_rfl) (by kernel_rfl) (by kernel_rfl) (by kernel_rfl) (fun _ _ _ h => h) hS (Or.inl ⟨by rfl, fun w hSw => ?_⟩) ?_
          · go_split_ands
            go_simp
          try simp only [Act.put, List.setIfInBounds_toArray, List.set_cons_zero, List.set_cons_succ]
          refine wpAnyL_take0 (i := 10) (oi := { dst := some 138, op := Go.Op.fieldAddr 60 (Go.Operand.tmp 137) 3, type := 0, pos := "law.go:96", after := #[{ on := 9, ground := Go.Ground.data }], guard := none }) (v := .pointer (some ⟨bx, 34, none⟩)) rfl (by kernel_rfl) (by kernel_rfl) (by kernel_rfl) (by kernel_rfl) (fun _ _ _ h => h) hS (Or.inl ⟨by rfl, fun w hSw => ?_⟩) ?_
          · go_split_ands
            go_simp
          try simp only [Act.put, List.setIfInBounds_toArray, List.set_cons_zero, List.set_cons_succ]
          refine wpAnyL_ready (rs := [7]) (by kernel_rfl) (by simp) ?_
          refine AllReadyL.cons (o := { dst := some 136, op := Go.Op.indexAddr 56 (Go.Operand.tmp 135) (Go.Operand.tmp 130), type := 0, pos := "law.go:96", after := #[{ on := 6, ground := Go.Ground.data }, { on := 1, ground := Go.Ground.data }, { on := 0, ground := Go.Ground.phase }, { on := 1, ground := Go.Ground.phase }, { on := 2, ground := Go.Ground.textOnly Go.Departure.lateStores }, { on := 3, ground := Go.Ground.textOnly Go.Departure.lateStores }, { on := 4, ground := Go.Ground.textOnly Go.Departure.lateStores }], guard := none }) rfl (fun K hK => ?_) AllReadyL.nil
          go_simp
          refine hK.out _ _ (fun _ => hS) ?_
          clear hK K
          try simp only [Act.put, List.setIfInBounds_toArray, List.set_cons_zero, List.set_cons_succ]
          refine wpAnyL_ready (rs := [8]) (by kernel_rfl) (by simp) ?_
          refine AllReadyL.cons (o := { dst := none, op := Go.Op.store 3 (Go.Operand.tmp 136) (Go.Operand.const (Go.Value.int Go.IntKind.i64 1)), type := 0, pos := "law.go:96", after := #[{ on := 7, ground := Go.Ground.data }, { on := 0, ground := Go.Ground.phase }, { on := 1, ground := Go.Ground.phase }, { on := 2, ground := Go.Ground.textOnly Go.Departure.lateStores }, { on := 3, ground := Go.Ground.textOnly Go.Departure.lateStores }, { on := 4, ground := Go.Ground.textOnly Go.Departure.lateStores }], guard := none }) rfl (fun K hK => ?_) AllReadyL.nil
          go_simp
          refine hK.out _ _ (fun _ => hS8) ?_
          clear hK K
          try simp only [Act.put, List.setIfInBounds_toArray, List.set_cons_zero, List.set_cons_succ]
          refine wpAnyL_ready (rs := [11]) (by kernel_rfl) (by simp) ?_
          refine AllReadyL.cons (o := { dst := some 139, op := Go.Op.indexAddr 57 (Go.Operand.tmp 138) (Go.Operand.tmp 132), type := 0, pos := "law.go:96", after := #[{ on := 10, ground := Go.Ground.data }, { on := 3, ground := Go.Ground.data }, { on := 0, ground := Go.Ground.phase }, { on := 1, ground := Go.Ground.phase }, { on := 2, ground := Go.Ground.phase }, { on := 3, ground := Go.Ground.phase }, { on := 4, ground := Go.Ground.phase }, { on := 5, ground := Go.Ground.phase }, { on := 6, ground := Go.Ground.phase }, { on := 7, ground := Go.Ground.phase }, { on := 8, ground := Go.Ground.phase }], guard := none }) rfl (fun K hK => ?_) AllReadyL.nil
          go_simp
          refine hK.out _ _ (fun _ => hS8) ?_
          clear hK K
          try simp only [Act.put, List.setIfInBounds_toArray, List.set_cons_zero, List.set_cons_succ]
          refine wpAnyL_ready (rs := [12]) (by kernel_rfl) (by simp) ?_
          refine AllReadyL.cons (o := { dst := none, op := Go.Op.store 55 (Go.Operand.tmp 139) (Go.Operand.tmp 133), type := 0, pos := "law.go:96", after := #[{ on := 11, ground := Go.Ground.data }, { on := 4, ground := Go.Ground.data }, { on := 8, ground := Go.Ground.chain }, { on := 0, ground := Go.Ground.phase }, { on := 1, ground := Go.Ground.phase }, { on := 2, ground := Go.Ground.phase }, { on := 3, ground := Go.Ground.phase }, { on := 4, ground := Go.Ground.phase }, { on := 5, ground := Go.Ground.phase }, { on := 6, ground := Go.Ground.phase }, { on := 7, ground := Go.Ground.phase }, { on := 8, ground := Go.Ground.phase }], guard := none }) rfl (fun K hK => ?_) AllReadyL.nil
          go_simp
          refine hK.out _ _ (late_no (by kernel_rfl)) ?_
          clear hK K
          try simp only [Act.put, List.setIfInBounds_toArray, List.set_cons_zero, List.set_cons_succ]
          refine wpAnyL_done (by kernel_rfl) ?_ _
          clear z2 y2 z3 y3 z4 y4 z5 y5
          clear q0 q1 hS hS8
          generalize (((Wx.setCell ⟨bx, 2 + c, none⟩ (.int .i64 1)).setCell ⟨bx, 34 + c * 2, none⟩ (.string p.1)).setCell ⟨bx, 34 + c * 2 + 1, none⟩ (.string p.2)).drew = Wy at *
          have hF := HF2.out
          have hFx := HX2.out
          have hR := HR2.out
          have hB := HB2.out
          clear HF2 HX2 HR2 HB2 hbx
          obtain ⟨f', hRB⟩ := rf_rb hF
          have z2 := hRB.cell (2 + c) (by omega)
          have y2 := hRB.frozen (2 + c)
          have z3 := hRB.cell (34 + c * 2) (by omega)
          have y3 := hRB.frozen (34 + c * 2)
          have z4 := hRB.cell (34 + c * 2 + 1) (by omega)
          have y4 := hRB.frozen (34 + c * 2 + 1)
          have z5 := hRB.cell (98 + c) (by omega)
          have y5 := hRB.frozen (98 + c)
          have hk2 : Keep [T] Wy ((Wy.setCell ⟨T, 2 + c, none⟩ (.int .i64 2)).setCell ⟨T, 98 + c, none⟩ (.pointer (some ⟨bx, 0, none⟩))) := (((Keep.refl [T] Wy).setCell (p := ⟨T, 2 + c, none⟩) (by simp) (.int .i64 2)).setCell (p := ⟨T, 98 + c, none⟩) (by simp) (.pointer (some ⟨bx, 0, none⟩)))
          have hF2 := hF.setKid hc32 hFx
          have hR2 := RootN.keepT hR hk2 (fun x hx => by obtain rfl := List.mem_singleton.1 hx; exact ⟨_, hRB⟩)
          have hB2 : Below w.heap.size w ((Wy.setCell ⟨T, 2 + c, none⟩ (.int .i64 2)).setCell ⟨T, 98 + c, none⟩ (.pointer (some ⟨bx, 0, none⟩))) := ((hB.setCell (p := ⟨T, 2 + c, none⟩) hTge (.int .i64 2)).setCell (p := ⟨T, 98 + c, none⟩) hTge (.pointer (some ⟨bx, 0, none⟩)))
          have hdr := (Below.refl ((Wy.setCell ⟨T, 2 + c, none⟩ (.int .i64 2)).setCell ⟨T, 98 + c, none⟩ (.pointer (some ⟨bx, 0, none⟩))).heap.size ((Wy.setCell ⟨T, 2 + c, none⟩ (.int .i64 2)).setCell ⟨T, 98 + c, none⟩ (.pointer (some ⟨bx, 0, none⟩)))).drew
          have HF2 := Lib.hid (RfN.below _ hF2 hdr)
          have HR2 := Lib.hid (RootN.below hR2 hdr)
          have HB2 := Lib.hid hB2.drew
          clear hk2 hF2 hR2 hB2 hdr hRB hF hR hB
          clear hFx
          go_upto_region 31 with (fail)
          refine wp_region_late (S := fun w' => True) (st := 8) (by kernel_rfl) ?_
          have hS : True := trivial
          refine wpAnyL_take0 (i := 0) (oi := { dst := some 140, op := Go.Op.move (Go.Operand.tmp 5), type := 37, pos := "law.go:97", after := #[], guard := none }) (v := .pointer (some ⟨T, 0, none⟩)) rfl (by kernel_rfl) (by kernel_rfl) (by kernel_rfl) (by kernel_rfl) (fun _ _ _ h => h) hS (Or.inl ⟨by rfl, fun w hSw => ?_⟩) ?_
          · go_split_ands
            go_simp
          try simp only [Act.put, List.setIfInBounds_toArray, List.set_cons_zero, List.set_cons_succ]
          refine wpAnyL_take0 (i := 1) (oi := { dst := some 141, op := Go.Op.move (Go.Operand.tmp 8), type := 3, pos := "law.go:97", after := #[], guard := none }) (v := .int .i64 c) rfl (by kernel_rfl) (by kernel_rfl) (by kernel_rfl) (by kernel_rfl) (fun _ _ _ h => h) hS (Or.inl ⟨by rfl, fun w hSw => ?_⟩) ?_
          · go_split_ands
            go_simp
          try simp only [Act.put, List.setIfInBounds_toArray, List.set_cons_zero, List.set_cons_succ]
          refine wpAnyL_take0 (i := 2) (oi := { dst := some 142, op := Go.Op.move (Go.Operand.tmp 5), type := 37, pos := "law.go:97", after := #[{ on := 8, ground := Go.Ground.gcOnly Go.Departure.lateStores }], guard := none }) (v := .pointer (some ⟨T, 0, none⟩)) rfl (by kernel_rfl) (by kernel_rfl) (by kernel_rfl) (by kernel_rfl) (fun _ _ _ h => h) hS (Or.inl ⟨by rfl, fun w hSw => ?_⟩) ?_
          · go_split_ands
            go_simp
          try simp only [Act.put, List.setIfInBounds_toArray, List.set_cons_zero, List.set_cons_succ]
          refine wpAnyL_take0 (i := 3) (oi := { dst := some 143, op := Go.Op.move (Go.Operand.tmp 8), type := 3, pos := "law.go:97", after := #[{ on := 8, ground := Go.Ground.gcOnly Go.Departure.lateStores }], guard := none }) (v := .int .i64 c) rfl (by kernel_rfl) (by kernel_rfl) (by kernel_rfl) (by kernel_rfl) (fun _ _ _ h => h) hS (Or.inl ⟨by rfl, fun w hSw => ?_⟩) ?_
          · go_split_ands
            go_simp
          try simp only [Act.put, List.setIfInBounds_toArray, List.set_cons_zero, List.set_cons_succ]
          refine wpAnyL_take0 (i := 4) (oi := { dst := some 144, op := Go.Op.move (Go.Operand.tmp 15), type := 37, pos := "law.go:97", after := #[{ on := 8, ground := Go.Ground.gcOnly Go.Departure.lateStores }], guard := none }) (v := .pointer (some ⟨bx, 0, none⟩)) rfl (by kernel_rfl) (by kernel_rfl) (by kernel_rfl) (by kernel_rfl) (fun _ _ _ h => h) hS (Or.inl ⟨by rfl, fun w hSw => ?_⟩) ?_
          · go_split_ands
            go_simp
          try simp only [Act.put, List.setIfInBounds_toArray, List.set_cons_zero, List.set_cons_succ]
          refine wpAnyL_take0 (i := 5) (oi := { dst := some 145, op := Go.Op.nilCheck (Go.Operand.tmp 140), type := 0, pos := "law.go:97", after := #[{ on := 0, ground := Go.Ground.data }], guard := none }) (v := .pointer (some ⟨T, 0, none⟩)) rfl (by kernel_rfl) (by kernel_rfl) (by kernel_rfl) (by kernel_rfl) (fun _ _ _ h => h) hS (Or.inl ⟨by rfl, fun w hSw => ?_⟩) ?_
          · go_split_ands
            go_simp
          try simp only [Act.put, List.setIfInBounds_toArray, List.set_cons_zero, List.set_cons_succ]
          refine wpAnyL_take0 (i := 6) (oi := { dst := some 146, op := Go.Op.fieldAddr 60 (Go.Operand.tmp 145) 2, type := 0, pos := "law.go:97", after := #[{ on := 5, ground := Go.Ground.data }], guard := none }) (v := .pointer (some ⟨T, 2, none⟩)) rfl (by kernel_rfl) (by kernel_rfl) (by kernel_rfl) (by kernel_rfl) (fun _ _ _ h => h) hS (Or.inl ⟨by rfl, fun w hSw => ?_⟩) ?_
          · go_split_ands
            go_simp
          try simp only [Act.put, List.setIfInBounds_toArray, List.set_cons_zero, List.set_cons_succ]
          refine wpAnyL_take0 (i := 9) (oi := { dst := some 148, op := Go.Op.nilCheck (Go.Operand.tmp 142), type := 0, pos := "law.go:97", after := #[{ on := 2, ground := Go.Ground.data }], guard := none }) (v := .pointer (some ⟨T, 0, none⟩)) rfl (by kernel_rfl) (by kernel_rfl) (by kernel_rfl) (by kernel_rfl) (fun _ _ _ h => h) hS (Or.inl ⟨by rfl, fun w hSw => ?_⟩) ?_
          · go_split_ands
            go_simp
          try simp only [Act.put, List.setIfInBounds_toArray, List.set_cons_zero, List.set_cons_succ]
          refine wpAnyL_take0 (i := 10) (oi := { dst := some 149, op := Go.Op.fieldAddr 60 (Go.Operand.tmp 148) 4, type := 0, pos := "law.go:97", after := #[{ on := 9, ground := Go.Ground.data }], guard := none }) (v := .pointer (some ⟨T, 98, none⟩)) rfl (by kernel_rfl) (by kernel_rfl) (by kernel_rfl) (by kernel_rfl) (fun _ _ _ h => h) hS (Or.inl ⟨by rfl, fun w hSw => ?_⟩) ?_
          · go_split_ands
            go_simp
          try simp only [Act.put, List.setIfInBounds_toArray, List.set_cons_zero, List.set_cons_succ]
          refine wpAnyL_ready (rs := [7]) (by kernel_rfl) (by simp) ?_
          refine AllReadyL.cons (o := { dst := some 147, op := Go.Op.indexAddr 56 (Go.Operand.tmp 146) (Go.Operand.tmp 141), type := 0, pos := "law.go:97", after := #[{ on := 6, ground := Go.Ground.data }, { on := 1, ground := Go.Ground.data }, { on := 0, ground := Go.Ground.phase }, { on := 1, ground := Go.Ground.phase }, { on := 2, ground := Go.Ground.textOnly Go.Departure.lateStores }, { on := 3, ground := Go.Ground.textOnly Go.Departure.lateStores }, { on := 4, ground := Go.Ground.textOnly Go.Departure.lateStores }], guard := none }) rfl (fun K hK => ?_) AllReadyL.nil
          go_simp
          refine hK.out _ _ (fun _ => trivial) ?_
          clear hK K
          try simp only [Act.put, List.setIfInBounds_toArray, List.set_cons_zero, List.set_cons_succ]
          refine wpAnyL_ready (rs := [8]) (by kernel_rfl) (by simp) ?_
          refine AllReadyL.cons (o := { dst := none, op := Go.Op.store 3 (Go.Operand.tmp 147) (Go.Operand.const (Go.Value.int Go.IntKind.i64 2)), type := 0, pos := "law.go:97", after := #[{ on := 7, ground := Go.Ground.data }, { on := 0, ground := Go.Ground.phase }, { on := 1, ground := Go.Ground.phase }, { on := 2, ground := Go.Ground.textOnly Go.Departure.lateStores }, { on := 3, ground := Go.Ground.textOnly Go.Departure.lateStores }, { on := 4, ground := Go.Ground.textOnly Go.Departure.lateStores }], guard := none }) rfl (fun K hK => ?_) AllReadyL.nil
          go_simp
          refine hK.out _ _ (late_no (by kernel_rfl)) ?_
          clear hK K
          try simp only [Act.put, List.setIfInBounds_toArray, List.set_cons_zero, List.set_cons_succ]
          refine wpAnyL_ready (rs := [11]) (by kernel_rfl) (by simp) ?_
          refine AllReadyL.cons (o := { dst := some 150, op := Go.Op.indexAddr 58 (Go.Operand.tmp 149) (Go.Operand.tmp 143), type := 0, pos := "law.go:97", after := #[{ on := 10, ground := Go.Ground.data }, { on := 3, ground := Go.Ground.data }, { on := 0, ground := Go.Ground.phase }, { on := 1, ground := Go.Ground.phase }, { on := 2, ground := Go.Ground.phase }, { on := 3, ground := Go.Ground.phase }, { on := 4, ground := Go.Ground.phase }, { on := 5, ground := Go.Ground.phase }, { on := 6, ground := Go.Ground.phase }, { on := 7, ground := Go.Ground.phase }, { on := 8, ground := Go.Ground.phase }], guard := none }) rfl (fun K hK => ?_) AllReadyL.nil
          go_simp
          refine hK.out _ _ (late_no (by kernel_rfl)) ?_
          clear hK K
          try simp only [Act.put, List.setIfInBounds_toArray, List.set_cons_zero, List.set_cons_succ]
          refine wpAnyL_ready (rs := [12]) (by kernel_rfl) (by simp) ?_
          refine AllReadyL.cons (o := { dst := none, op := Go.Op.store 37 (Go.Operand.tmp 150) (Go.Operand.tmp 144), type := 0, pos := "law.go:97", after := #[{ on := 11, ground := Go.Ground.data }, { on := 4, ground := Go.Ground.data }, { on := 8, ground := Go.Ground.chain }, { on := 0, ground := Go.Ground.phase }, { on := 1, ground := Go.Ground.phase }, { on := 2, ground := Go.Ground.phase }, { on := 3, ground := Go.Ground.phase }, { on := 4, ground := Go.Ground.phase }, { on := 5, ground := Go.Ground.phase }, { on := 6, ground := Go.Ground.phase }, { on := 7, ground := Go.Ground.phase }, { on := 8, ground := Go.Ground.phase }], guard := none }) rfl (fun K hK => ?_) AllReadyL.nil
          go_simp
          refine hK.out _ _ (late_no (by kernel_rfl)) ?_
          clear hK K
          try simp only [Act.put, List.setIfInBounds_toArray, List.set_cons_zero, List.set_cons_succ]
          refine wpAnyL_done (by kernel_rfl) ?_ _
          clear z2 y2 z3 y3 z4 y4 z5 y5
          clear hS
          generalize ((Wy.setCell ⟨T, 2 + c, none⟩ (.int .i64 2)).setCell ⟨T, 98 + c, none⟩ (.pointer (some ⟨bx, 0, none⟩))).drew = W9 at *
          have hkn := hk.set (c := c) (x := none) (Known.empty.set (c := c) (x := some p) Known.no (.inr rfl) (fun p' e => by obtain rfl := Option.some.inj e; exact ⟨hp1, hp2⟩)) (.inl rfl) (fun p' e => by cases e)
          have HBI : Hid (BI w (j + 1) b1 T W9) := Lib.hid ⟨_, _, _, _, HR2.out, HF2.out, hkn, by omega, by omega, hTge, HB2.out⟩
          clear HR2 HF2 HB2 hkn hk
          try dsimp only
          go_wp2_with fail
          exact ⟨⟨j + 1, b1, T, by omega, by omega, by go_num, rfl, rfl, HBI.out⟩, by simp [intOf]; omega⟩

        | 0, hd6 =>
          clear hAct hps
          have kc := hR.setPair p c hc32 (RootN.baseLe hR)
          unfold at0 Pr.v at kc
          clear hR
          have q0 : W5.cell? ⟨N9, 0, none⟩ = some (.string p.1) := hP.cell 0
          have q1 : W5.cell? ⟨N9, 1, none⟩ = some (.string p.2) := hP.cell 1
          go_wp2_with fail
          refine kc.mono ?_
          rintro e w7 ⟨b1, rfl, hR, hB7⟩
          have hF := RfN.below _ hF hB7
          have hP := hP.below hB7
          have hB := hB.trans (hB7.mono hB.size)
          clear kc hB7 q0 q1
          have q0 : w7.cell? ⟨N9, 0, none⟩ = some (.string p.1) := hP.cell 0
          have q1 : w7.cell? ⟨N9, 1, none⟩ = some (.string p.2) := hP.cell 1
          obtain ⟨f, hRB⟩ := rf_rb hF
          have z2 := hRB.cell (2 + c) (by omega)
          have y2 := hRB.frozen (2 + c)
          have z3 := hRB.cell (34 + c * 2) (by omega)
          have y3 := hRB.frozen (34 + c * 2)
          have z4 := hRB.cell (34 + c * 2 + 1) (by omega)
          have y4 := hRB.frozen (34 + c * 2 + 1)
          have z5 := hRB.cell (98 + c) (by omega)
          have y5 := hRB.frozen (98 + c)
          have hPT := rf_ne hF hP (by decide)
          have hS8 : (w7.drew.setCell ⟨T, 2 + c, none⟩ (.int .i64 1)).cell? ⟨N9, 0, none⟩ = some (.string p.1) ∧ (w7.drew.setCell ⟨T, 2 + c, none⟩ (.int .i64 1)).cell? ⟨N9, 1, none⟩ = some (.string p.2) := by
            have h9 := (hP.below (Below.refl w7.heap.size w7).drew).far (p := ⟨T, 2 + c, none⟩) hPT (.int .i64 1)
            exact ⟨h9.cell 0, h9.cell 1⟩
          have hk2 : Keep [T] w7 (((w7.setCell ⟨T, 2 + c, none⟩ (.int .i64 1)).setCell ⟨T, 34 + c * 2, none⟩ (.string p.1)).setCell ⟨T, 34 + c * 2 + 1, none⟩ (.string p.2)) := ((((Keep.refl [T] w7).setCell (p := ⟨T, 2 + c, none⟩) (by simp) (.int .i64 1)).setCell (p := ⟨T, 34 + c * 2, none⟩) (by simp) (.string p.1)).setCell (p := ⟨T, 34 + c * 2 + 1, none⟩) (by simp) (.string p.2))
          have hF2 := hF.setPair p hc32
          have hR2 := RootN.keepT hR hk2 (fun x hx => by obtain rfl := List.mem_singleton.1 hx; exact ⟨_, hRB⟩)
          have hB2 : Below w.heap.size w (((w7.setCell ⟨T, 2 + c, none⟩ (.int .i64 1)).setCell ⟨T, 34 + c * 2, none⟩ (.string p.1)).setCell ⟨T, 34 + c * 2 + 1, none⟩ (.string p.2)) := (((hB.setCell (p := ⟨T, 2 + c, none⟩) hTge (.int .i64 1)).setCell (p := ⟨T, 34 + c * 2, none⟩) hTge (.string p.1)).setCell (p := ⟨T, 34 + c * 2 + 1, none⟩) hTge (.string p.2))
          have hdr := (Below.refl (((w7.setCell ⟨T, 2 + c, none⟩ (.int .i64 1)).setCell ⟨T, 34 + c * 2, none⟩ (.string p.1)).setCell ⟨T, 34 + c * 2 + 1, none⟩ (.string p.2)).heap.size (((w7.setCell ⟨T, 2 + c, none⟩ (.int .i64 1)).setCell ⟨T, 34 + c * 2, none⟩ (.string p.1)).setCell ⟨T, 34 + c * 2 + 1, none⟩ (.string p.2))).drew
          have HF2 := Lib.hid (RfN.below _ hF2 hdr)
          have HR2 := Lib.hid (RootN.below hR2 hdr)
          have HB2 := Lib.hid hB2.drew
          clear hk2 hF2 hR2 hB2 hdr hRB hF hR hB
          clear hPT hP
          go_upto_region 10 with (fail)
          refine wp_region_late (S := fun w' => w'.cell? ⟨N9, 0, none⟩ = some (.string p.1) ∧ w'.cell? ⟨N9, 1, none⟩ = some (.string p.2)) (st := 12) (by kernel_rfl) ?_
          have hS : w7.drew.cell? ⟨N9, 0, none⟩ = some (.string p.1) ∧ w7.drew.cell? ⟨N9, 1, none⟩ = some (.string p.2) := ⟨q0, q1⟩
          refine wpAnyL_take0 (i := 0) (oi := { dst := some 42, op := Go.Op.move (Go.Operand.tmp 5), type := 37, pos := "law.go:100", after := #[], guard := none }) (v := .pointer (some ⟨T, 0, none⟩)) rfl (by kernel_rfl) (by kernel_rfl) (by kernel_rfl) (by kernel_rfl) (fun _ _ _ h => h) hS (Or.inl ⟨by rfl, fun w hSw => ?_⟩) ?_
          · go_split_ands
            go_simp
          try simp only [Act.put, List.setIfInBounds_toArray, List.set_cons_zero, List.set_cons_succ]
          refine wpAnyL_take0 (i := 1) (oi := { dst := some 43, op := Go.Op.move (Go.Operand.tmp 8), type := 3, pos := "law.go:100", after := #[], guard := none }) (v := .int .i64 c) rfl (by kernel_rfl) (by kernel_rfl) (by kernel_rfl) (by kernel_rfl) (fun _ _ _ h => h) hS (Or.inl ⟨by rfl, fun w hSw => ?_⟩) ?_
          · go_split_ands
            go_simp
          try simp only [Act.put, List.setIfInBounds_toArray, List.set_cons_zero, List.set_cons_succ]
          refine wpAnyL_take0 (i := 2) (oi := { dst := some 44, op := Go.Op.move (Go.Operand.tmp 5), type := 37, pos := "law.go:100", after := #[{ on := 8, ground := Go.Ground.gcOnly Go.Departure.lateStores }], guard := none }) (v := .pointer (some ⟨T, 0, none⟩)) rfl (by kernel_rfl) (by kernel_rfl) (by kernel_rfl) (by kernel_rfl) (fun _ _ _ h => h) hS (Or.inl ⟨by rfl, fun w hSw => ?_⟩) ?_
          · go_split_ands
            go_simp
          try simp only [Act.put, List.setIfInBounds_toArray, List.set_cons_zero, List.set_cons_succ]
          refine wpAnyL_take0 (i := 3) (oi := { dst := some 45, op := Go.Op.move (Go.Operand.tmp 8), type := 3, pos := "law.go:100", after := #[{ on := 8, ground := Go.Ground.gcOnly Go.Departure.lateStores }], guard := none }) (v := .int .i64 c) rfl (by kernel_rfl) (by kernel_rfl) (by kernel_rfl) (by kernel_rfl) (fun _ _ _ h => h) hS (Or.inl ⟨by rfl, fun w hSw => ?_⟩) ?_
          · go_split_ands
            go_simp
          try simp only [Act.put, List.setIfInBounds_toArray, List.set_cons_zero, List.set_cons_succ]
          refine wpAnyL_take (i := 4) (oi := { dst := some 46, op := Go.Op.load 52 (Go.Operand.tmp 9), type := 52, pos := "law.go:100", after := #[{ on := 8, ground := Go.Ground.gcOnly Go.Departure.lateStores }], guard := none }) (v := .agg #[.string p.1, .string p.2]) rfl (by kernel_rfl) (by kernel_rfl) (by kernel_rfl) (by kernel_rfl) (fun _ _ _ h => h) hS (Or.inl ⟨by rfl, fun w hSw => ?_⟩) ?_
          · go_split_ands
            go_simp
          try simp only [Act.put, List.setIfInBounds_toArray, List.set_cons_zero, List.set_cons_succ]
          refine wpAnyL_take0 (i := 5) (oi := { dst := some 47, op := Go.Op.nilCheck (Go.Operand.tmp 42), type := 0, pos := "law.go:100", after := #[{ on := 0, ground := Go.Ground.data }], guard := none }) (v := .pointer (some ⟨T, 0, none⟩)) rfl (by kernel_rfl) (by kernel_rfl) (by kernel_rfl) (by kernel_rfl) (fun _ _ _ h => h) hS (Or.inl ⟨by rfl, fun w hSw => ?_⟩) ?_
          · go_split_ands
            go_simp
          try simp only [Act.put, List.setIfInBounds_toArray, List.set_cons_zero, List.set_cons_succ]
          refine wpAnyL_take0 (i := 6) (oi := { dst := some 48, op := Go.Op.fieldAddr 60 (Go.Operand.tmp 47) 2, type := 0, pos := "law.go:100", after := #[{ on := 5, ground := Go.Ground.data }], guard := none }) (v := .pointer (some ⟨T, 2, none⟩)) rfl (by kernel_rfl) (by kernel_rfl) (by kernel_rfl) (by kernel_rfl) (fun _ _ _ h => h) hS (Or.inl ⟨by rfl, fun w hSw => ?_⟩) ?_
          · go_split_ands
            go_simp
          try simp only [Act.put, List.setIfInBounds_toArray, List.set_cons_zero, List.set_cons_succ]
          refine wpAnyL_take0 (i := 9) (oi := { dst := some 50, op := Go.Op.nilCheck (Go.Operand.tmp 44), type := 0, pos := "law.go:100", after := #[{ on := 2, ground := Go.Ground.data }], guard := none }) (v := .pointer (some ⟨T, 0, none⟩)) rfl (by kernel_rfl) (by kernel_rfl) (by kernel_rfl) (by kernel_rfl) (fun _ _ _ h => h) hS (Or.inl ⟨by rfl, fun w hSw => ?_⟩) ?_
          · go_split_ands
            go_simp
          try simp only [Act.put, List.setIfInBounds_toArray, List.set_cons_zero, List.set_cons_succ]
          refine wpAnyL_take0 (i := 10) (oi := { dst := some 51, op := Go.Op.fieldAddr 60 (Go.Operand.tmp 50) 3, type := 0, pos := "law.go:100", after := #[{ on := 9, ground := Go.Ground.data }], guard := none }) (v := .pointer (some ⟨T, 34, none⟩)) rfl (by kernel_rfl) (by kernel_rfl) (by kernel_rfl) (by kernel_rfl) (fun _ _ _ h => h) hS (Or.inl ⟨by rfl, fun w hSw => ?_⟩) ?_
          · go_split_ands
            go_simp
          try simp only [Act.put, List.setIfInBounds_toArray, List.set_cons_zero, List.set_cons_succ]
          refine wpAnyL_ready (rs := [7]) (by kernel_rfl) (by simp) ?_
          refine AllReadyL.cons (o := { dst := some 49, op := Go.Op.indexAddr 56 (Go.Operand.tmp 48) (Go.Operand.tmp 43), type := 0, pos := "law.go:100", after := #[{ on := 6, ground := Go.Ground.data }, { on := 1, ground := Go.Ground.data }, { on := 0, ground := Go.Ground.phase }, { on := 1, ground := Go.Ground.phase }, { on := 2, ground := Go.Ground.textOnly Go.Departure.lateStores }, { on := 3, ground := Go.Ground.textOnly Go.Departure.lateStores }, { on := 4, ground := Go.Ground.textOnly Go.Departure.lateStores }], guard := none }) rfl (fun K hK => ?_) AllReadyL.nil
          go_simp
          refine hK.out _ _ (fun _ => hS) ?_
          clear hK K
          try simp only [Act.put, List.setIfInBounds_toArray, List.set_cons_zero, List.set_cons_succ]
          refine wpAnyL_ready (rs := [8]) (by kernel_rfl) (by simp) ?_
          refine AllReadyL.cons (o := { dst := none, op := Go.Op.store 3 (Go.Operand.tmp 49) (Go.Operand.const (Go.Value.int Go.IntKind.i64 1)), type := 0, pos := "law.go:100", after := #[{ on := 7, ground := Go.Ground.data }, { on := 0, ground := Go.Ground.phase }, { on := 1, ground := Go.Ground.phase }, { on := 2, ground := Go.Ground.textOnly Go.Departure.lateStores }, { on := 3, ground := Go.Ground.textOnly Go.Departure.lateStores }, { on := 4, ground := Go.Ground.textOnly Go.Departure.lateStores }], guard := none }) rfl (fun K hK => ?_) AllReadyL.nil
          go_simp
          refine hK.out _ _ (fun _ => hS8) ?_
          clear hK K
          try simp only [Act.put, List.setIfInBounds_toArray, List.set_cons_zero, List.set_cons_succ]
          refine wpAnyL_ready (rs := [11]) (by kernel_rfl) (by simp) ?_
          refine AllReadyL.cons (o := { dst := some 52, op := Go.Op.indexAddr 57 (Go.Operand.tmp 51) (Go.Operand.tmp 45), type := 0, pos := "law.go:100", after := #[{ on := 10, ground := Go.Ground.data }, { on := 3, ground := Go.Ground.data }, { on := 0, ground := Go.Ground.phase }, { on := 1, ground := Go.Ground.phase }, { on := 2, ground := Go.Ground.phase }, { on := 3, ground := Go.Ground.phase }, { on := 4, ground := Go.Ground.phase }, { on := 5, ground := Go.Ground.phase }, { on := 6, ground := Go.Ground.phase }, { on := 7, ground := Go.Ground.phase }, { on := 8, ground := Go.Ground.phase }], guard := none }) rfl (fun K hK => ?_) AllReadyL.nil
          go_simp
          refine hK.out _ _ (fun _ => hS8) ?_
          clear hK K
          try simp only [Act.put, List.setIfInBounds_toArray, List.set_cons_zero, List.set_cons_succ]
          refine wpAnyL_ready (rs := [12]) (by kernel_rfl) (by simp) ?_
          refine AllReadyL.cons (o := { dst := none, op := Go.Op.store 55 (Go.Operand.tmp 52) (Go.Operand.tmp 46), type := 0, pos := "law.go:100", after := #[{ on := 11, ground := Go.Ground.data }, { on := 4, ground := Go.Ground.data }, { on := 8, ground := Go.Ground.chain }, { on := 0, ground := Go.Ground.phase }, { on := 1, ground := Go.Ground.phase }, { on := 2, ground := Go.Ground.phase }, { on := 3, ground := Go.Ground.phase }, { on := 4, ground := Go.Ground.phase }, { on := 5, ground := Go.Ground.phase }, { on := 6, ground := Go.Ground.phase }, { on := 7, ground := Go.Ground.phase }, { on := 8, ground := Go.Ground.phase }], guard := none }) rfl (fun K hK => ?_) AllReadyL.nil
          go_simp
          refine hK.out _ _ (late_no (by kernel_rfl)) ?_
          clear hK K
          try simp only [Act.put, List.setIfInBounds_toArray, List.set_cons_zero, List.set_cons_succ]
          refine wpAnyL_done (by kernel_rfl) ?_ _
          clear z2 y2 z3 y3 z4 y4 z5 y5
          clear q0 q1 hS hS8
          generalize (((w7.setCell ⟨T, 2 + c, none⟩ (.int .i64 1)).setCell ⟨T, 34 + c * 2, none⟩ (.string p.1)).setCell ⟨T, 34 + c * 2 + 1, none⟩ (.string p.2)).drew = W9 at *
          have hkn := hk.set (c := c) (x := some p) Known.no (.inr rfl) (fun p' e => by obtain rfl := Option.some.inj e; exact ⟨hp1, hp2⟩)
          have HBI : Hid (BI w (j + 1) b1 T W9) := Lib.hid ⟨_, _, _, _, HR2.out, HF2.out, hkn, by omega, by omega, hTge, HB2.out⟩
          clear HR2 HF2 HB2 hkn hk
          try dsimp only
          go_wp2_with fail
          exact ⟨⟨j + 1, b1, T, by omega, by omega, by go_num, rfl, rfl, HBI.out⟩, by simp [intOf]; omega⟩

        | 1, hd6 =>
          clear hAct hps
          have kc := hR.setPair p c hc32 (RootN.baseLe hR)
          unfold at0 Pr.v at kc
          clear hR
          have q0 : W5.cell? ⟨N9, 0, none⟩ = some (.string p.1) := hP.cell 0
          have q1 : W5.cell? ⟨N9, 1, none⟩ = some (.string p.2) := hP.cell 1
          go_wp2_with fail
          refine kc.mono ?_
          rintro e w7 ⟨b1, rfl, hR, hB7⟩
          have hF := RfN.below _ hF hB7
          have hP := hP.below hB7
          have hB := hB.trans (hB7.mono hB.size)
          clear kc hB7 q0 q1
          have q0 : w7.cell? ⟨N9, 0, none⟩ = some (.string p.1) := hP.cell 0
          have q1 : w7.cell? ⟨N9, 1, none⟩ = some (.string p.2) := hP.cell 1
          obtain ⟨f, hRB⟩ := rf_rb hF
          have z2 := hRB.cell (2 + c) (by omega)
          have y2 := hRB.frozen (2 + c)
          have z3 := hRB.cell (34 + c * 2) (by omega)
          have y3 := hRB.frozen (34 + c * 2)
          have z4 := hRB.cell (34 + c * 2 + 1) (by omega)
          have y4 := hRB.frozen (34 + c * 2 + 1)
          have z5 := hRB.cell (98 + c) (by omega)
          have y5 := hRB.frozen (98 + c)
          have hPT := rf_ne hF hP (by decide)
          have hS8 : (w7.drew.setCell ⟨T, 2 + c, none⟩ (.int .i64 1)).cell? ⟨N9, 0, none⟩ = some (.string p.1) ∧ (w7.drew.setCell ⟨T, 2 + c, none⟩ (.int .i64 1)).cell? ⟨N9, 1, none⟩ = some (.string p.2) := by
            have h9 := (hP.below (Below.refl w7.heap.size w7).drew).far (p := ⟨T, 2 + c, none⟩) hPT (.int .i64 1)
            exact ⟨h9.cell 0, h9.cell 1⟩
          have hk2 : Keep [T] w7 (((w7.setCell ⟨T, 2 + c, none⟩ (.int .i64 1)).setCell ⟨T, 34 + c * 2, none⟩ (.string p.1)).setCell ⟨T, 34 + c * 2 + 1, none⟩ (.string p.2)) := ((((Keep.refl [T] w7).setCell (p := ⟨T, 2 + c, none⟩) (by simp) (.int .i64 1)).setCell (p := ⟨T, 34 + c * 2, none⟩) (by simp) (.string p.1)).setCell (p := ⟨T, 34 + c * 2 + 1, none⟩) (by simp) (.string p.2))
          have hF2 := hF.setPair p hc32
          have hR2 := RootN.keepT hR hk2 (fun x hx => by obtain rfl := List.mem_singleton.1 hx; exact ⟨_, hRB⟩)
          have hB2 : Below w.heap.size w (((w7.setCell ⟨T, 2 + c, none⟩ (.int .i64 1)).setCell ⟨T, 34 + c * 2, none⟩ (.string p.1)).setCell ⟨T, 34 + c * 2 + 1, none⟩ (.string p.2)) := (((hB.setCell (p := ⟨T, 2 + c, none⟩) hTge (.int .i64 1)).setCell (p := ⟨T, 34 + c * 2, none⟩) hTge (.string p.1)).setCell (p := ⟨T, 34 + c * 2 + 1, none⟩) hTge (.string p.2))
          have hdr := (Below.refl (((w7.setCell ⟨T, 2 + c, none⟩ (.int .i64 1)).setCell ⟨T, 34 + c * 2, none⟩ (.string p.1)).setCell ⟨T, 34 + c * 2 + 1, none⟩ (.string p.2)).heap.size (((w7.setCell ⟨T, 2 + c, none⟩ (.int .i64 1)).setCell ⟨T, 34 + c * 2, none⟩ (.string p.1)).setCell ⟨T, 34 + c * 2 + 1, none⟩ (.string p.2))).drew
          have HF2 := Lib.hid (RfN.below _ hF2 hdr)
          have HR2 := Lib.hid (RootN.below hR2 hdr)
          have HB2 := Lib.hid hB2.drew
          clear hk2 hF2 hR2 hB2 hdr hRB hF hR hB
          clear hPT hP
          go_upto_region 10 with (fail)
          refine wp_region_late (S := fun w' => w'.cell? ⟨N9, 0, none⟩ = some (.string p.1) ∧ w'.cell? ⟨N9, 1, none⟩ = some (.string p.2)) (st := 12) (by kernel_rfl) ?_
          have hS : w7.drew.cell? ⟨N9, 0, none⟩ = some (.string p.1) ∧ w7.drew.cell? ⟨N9, 1, none⟩ = some (.string p.2) := ⟨q0, q1⟩
          refine wpAnyL_take0 (i := 0) (oi := { dst := some 42, op := Go.Op.move (Go.Operand.tmp 5), type := 37, pos := "law.go:100", after := #[], guard := none }) (v := .pointer (some ⟨T, 0, none⟩)) rfl (by kernel_rfl) (by kernel_rfl) (by kernel_rfl) (by kernel_rfl) (fun _ _ _ h => h) hS (Or.inl ⟨by rfl, fun w hSw => ?_⟩) ?_
          · go_split_ands
            go_simp
          try simp only [Act.put, List.setIfInBounds_toArray, List.set_cons_zero, List.set_cons_succ]
          refine wpAnyL_take0 (i := 1) (oi := { dst := some 43, op := Go.Op.move (Go.Operand.tmp 8), type := 3, pos := "law.go:100", after := #[], guard := none }) (v := .int .i64 c) rfl (by kernel_rfl) (by kernel_rfl) (by kernel_rfl) (by kernel_rfl) (fun _ _ _ h => h) hS (Or.inl ⟨by rfl, fun w hSw => ?_⟩) ?_
          · go_split_ands
            go_simp
          try simp only [Act.put, List.setIfInBounds_toArray, List.set_cons_zero, List.set_cons_succ]
          refine wpAnyL_take0 (i := 2) (oi := { dst := some 44, op := Go.Op.move (Go.Operand.tmp 5), type := 37, pos := "law.go:100", after := #[{ on := 8, ground := Go.Ground.gcOnly Go.Departure.lateStores }], guard := none }) (v := .pointer (some ⟨T, 0, none⟩)) rfl (by kernel_rfl) (by kernel_rfl) (by kernel_rfl) (by kernel_rfl) (fun _ _ _ h => h) hS (Or.inl ⟨by rfl, fun w hSw => ?_⟩) ?_
          · go_split_ands
            go_simp
          try simp only [Act.put, List.setIfInBounds_toArray, List.set_cons_zero, List.set_cons_succ]
          refine wpAnyL_take0 (i := 3) (oi := { dst := some 45, op := Go.Op.move (Go.Operand.tmp 8), type := 3, pos := "law.go:100", after := #[{ on := 8, ground := Go.Ground.gcOnly Go.Departure.lateStores }], guard := none }) (v := .int .i64 c) rfl (by kernel_rfl) (by kernel_rfl) (by kernel_rfl) (by kernel_rfl) (fun _ _ _ h => h) hS (Or.inl ⟨by rfl, fun w hSw => ?_⟩) ?_
          · go_split_ands
            go_simp
          try simp only [Act.put, List.setIfInBounds_toArray, List.set_cons_zero, List.set_cons_succ]
          refine wpAnyL_take (i := 4) (oi := { dst := some 46, op := Go.Op.load 52 (Go.Operand.tmp 9), type := 52, pos := "law.go:100", after := #[{ on := 8, ground := Go.Ground.gcOnly Go.Departure.lateStores }], guard := none }) (v := .agg #[.string p.1, .string p.2]) rfl (by kernel_rfl) (by kernel_rfl) (by kernel_rfl) (by kernel_rfl) (fun _ _ _ h => h) hS (Or.inl ⟨by rfl, fun w hSw => ?_⟩) ?_
          · go_split_ands
            go_simp
          try simp only [Act.put, List.setIfInBounds_toArray, List.set_cons_zero, List.set_cons_succ]
          refine wpAnyL_take0 (i := 5) (oi := { dst := some 47, op := Go.Op.nilCheck (Go.Operand.tmp 42), type := 0, pos := "law.go:100", after := #[{ on := 0, ground := Go.Ground.data }], guard := none }) (v := .pointer (some ⟨T, 0, none⟩)) rfl (by kernel_rfl) (by kernel_rfl) (by kernel_rfl) (by kernel_rfl) (fun _ _ _ h => h) hS (Or.inl ⟨by rfl, fun w hSw => ?_⟩) ?_
          · go_split_ands
            go_simp
          try simp only [Act.put, List.setIfInBounds_toArray, List.set_cons_zero, List.set_cons_succ]
          refine wpAnyL_take0 (i := 6) (oi := { dst := some 48, op := Go.Op.fieldAddr 60 (Go.Operand.tmp 47) 2, type := 0, pos := "law.go:100", after := #[{ on := 5, ground := Go.Ground.data }], guard := none }) (v := .pointer (some ⟨T, 2, none⟩)) rfl (by kernel_rfl) (by kernel_rfl) (by kernel_rfl) (by kernel_rfl) (fun _ _ _ h => h) hS (Or.inl ⟨by rfl, fun w hSw => ?_⟩) ?_
          · go_split_ands
            go_simp
          try simp only [Act.put, List.setIfInBounds_toArray, List.set_cons_zero, List.set_cons_succ]
          refine wpAnyL_take0 (i := 9) (oi := { dst := some 50, op := Go.Op.nilCheck (Go.Operand.tmp 44), type := 0, pos := "law.go:100", after := #[{ on := 2, ground := Go.Ground.data }], guard := none }) (v := .pointer (some ⟨T, 0, none⟩)) rfl (by kernel_rfl) (by kernel_rfl) (by kernel_rfl) (by kernel_rfl) (fun _ _ _ h => h) hS (Or.inl ⟨by rfl, fun w hSw => ?_⟩) ?_
          · go_split_ands
            go_simp
          try simp only [Act.put, List.setIfInBounds_toArray, List.set_cons_zero, List.set_cons_succ]
          refine wpAnyL_take0 (i := 10) (oi := { dst := some 51, op := Go.Op.fieldAddr 60 (Go.Operand.tmp 50) 3, type := 0, pos := "law.go:100", after := #[{ on := 9, ground := Go.Ground.data }], guard := none }) (v := .pointer (some ⟨T, 34, none⟩)) rfl (by kernel_rfl) (by kernel_rfl) (by kernel_rfl) (by kernel_rfl) (fun _ _ _ h => h) hS (Or.inl ⟨by rfl, fun w hSw => ?_⟩) ?_
          · go_split_ands
            go_simp
          try simp only [Act.put, List.setIfInBounds_toArray, List.set_cons_zero, List.set_cons_succ]
          refine wpAnyL_ready (rs := [7]) (by kernel_rfl) (by simp) ?_
          refine AllReadyL.cons (o := { dst := some 49, op := Go.Op.indexAddr 56 (Go.Operand.tmp 48) (Go.Operand.tmp 43), type := 0, pos := "law.go:100", after := #[{ on := 6, ground := Go.Ground.data }, { on := 1, ground := Go.Ground.data }, { on := 0, ground := Go.Ground.phase }, { on := 1, ground := Go.Ground.phase }, { on := 2, ground := Go.Ground.textOnly Go.Departure.lateStores }, { on := 3, ground := Go.Ground.textOnly Go.Departure.lateStores }, { on := 4, ground := Go.Ground.textOnly Go.Departure.lateStores }], guard := none }) rfl (fun K hK => ?_) AllReadyL.nil
          go_simp
          refine hK.out _ _ (fun _ => hS) ?_
          clear hK K
          try simp only [Act.put, List.setIfInBounds_toArray, List.set_cons_zero, List.set_cons_succ]
          refine wpAnyL_ready (rs := [8]) (by kernel_rfl) (by simp) ?_
          refine AllReadyL.cons (o := { dst := none, op := Go.Op.store 3 (Go.Operand.tmp 49) (Go.Operand.const (Go.Value.int Go.IntKind.i64 1)), type := 0, pos := "law.go:100", after := #[{ on := 7, ground := Go.Ground.data }, { on := 0, ground := Go.Ground.phase }, { on := 1, ground := Go.Ground.phase }, { on := 2, ground := Go.Ground.textOnly Go.Departure.lateStores }, { on := 3, ground := Go.Ground.textOnly Go.Departure.lateStores }, { on := 4, ground := Go.Ground.textOnly Go.Departure.lateStores }], guard := none }) rfl (fun K hK => ?_) AllReadyL.nil
          go_simp
          refine hK.out _ _ (fun _ => hS8) ?_
          clear hK K
          try simp only [Act.put, List.setIfInBounds_toArray, List.set_cons_zero, List.set_cons_succ]
          refine wpAnyL_ready (rs := [11]) (by kernel_rfl) (by simp) ?_
          refine AllReadyL.cons (o := { dst := some 52, op := Go.Op.indexAddr 57 (Go.Operand.tmp 51) (Go.Operand.tmp 45), type := 0, pos := "law.go:100", after := #[{ on := 10, ground := Go.Ground.data }, { on := 3, ground := Go.Ground.data }, { on := 0, ground := Go.Ground.phase }, { on := 1, ground := Go.Ground.phase }, { on := 2, ground := Go.Ground.phase }, { on := 3, ground := Go.Ground.phase }, { on := 4, ground := Go.Ground.phase }, { on := 5, ground := Go.Ground.phase }, { on := 6, ground := Go.Ground.phase }, { on := 7, ground := Go.Ground.phase }, { on := 8, ground := Go.Ground.phase }], guard := none }) rfl (fun K hK => ?_) AllReadyL.nil
          go_simp
          refine hK.out _ _ (fun _ => hS8) ?_
          clear hK K
          try simp only [Act.put, List.setIfInBounds_toArray, List.set_cons_zero, List.set_cons_succ]
          refine wpAnyL_ready (rs := [12]) (by kernel_rfl) (by simp) ?_
          refine AllReadyL.cons (o := { dst := none, op := Go.Op.store 55 (Go.Operand.tmp 52) (Go.Operand.tmp 46), type := 0, pos := "law.go:100", after := #[{ on := 11, ground := Go.Ground.data }, { on := 4, ground := Go.Ground.data }, { on := 8, ground := Go.Ground.chain }, { on := 0, ground := Go.Ground.phase }, { on := 1, ground := Go.Ground.phase }, { on := 2, ground := Go.Ground.phase }, { on := 3, ground := Go.Ground.phase }, { on := 4, ground := Go.Ground.phase }, { on := 5, ground := Go.Ground.phase }, { on := 6, ground := Go.Ground.phase }, { on := 7, ground := Go.Ground.phase }, { on := 8, ground := Go.Ground.phase }], guard := none }) rfl (fun K hK => ?_) AllReadyL.nil
          go_simp
          refine hK.out _ _ (late_no (by kernel_rfl)) ?_
          clear hK K
          try simp only [Act.put, List.setIfInBounds_toArray, List.set_cons_zero, List.set_cons_succ]
          refine wpAnyL_done (by kernel_rfl) ?_ _
          clear z2 y2 z3 y3 z4 y4 z5 y5
          clear q0 q1 hS hS8
          generalize (((w7.setCell ⟨T, 2 + c, none⟩ (.int .i64 1)).setCell ⟨T, 34 + c * 2, none⟩ (.string p.1)).setCell ⟨T, 34 + c * 2 + 1, none⟩ (.string p.2)).drew = W9 at *
          have hkn := hk.set (c := c) (x := some p) Known.no (.inr rfl) (fun p' e => by obtain rfl := Option.some.inj e; exact ⟨hp1, hp2⟩)
          have HBI : Hid (BI w (j + 1) b1 T W9) := Lib.hid ⟨_, _, _, _, HR2.out, HF2.out, hkn, by omega, by omega, hTge, HB2.out⟩
          clear HR2 HF2 HB2 hkn hk
          try dsimp only
          go_wp2_with fail
          exact ⟨⟨j + 1, b1, T, by omega, by omega, by go_num, rfl, rfl, HBI.out⟩, by simp [intOf]; omega⟩

        | 2, hd6 =>
          clear hAct hps
          have kc := hR.setPair p c hc32 (RootN.baseLe hR)
          unfold at0 Pr.v at kc
          clear hR
          have q0 : W5.cell? ⟨N9, 0, none⟩ = some (.string p.1) := hP.cell 0
          have q1 : W5.cell? ⟨N9, 1, none⟩ = some (.string p.2) := hP.cell 1
          go_wp2_with fail
          refine kc.mono ?_
          rintro e w7 ⟨b1, rfl, hR, hB7⟩
          have hF := RfN.below _ hF hB7
          have hP := hP.below hB7
          have hB := hB.trans (hB7.mono hB.size)
          clear kc hB7 q0 q1
          have q0 : w7.cell? ⟨N9, 0, none⟩ = some (.string p.1) := hP.cell 0
          have q1 : w7.cell? ⟨N9, 1, none⟩ = some (.string p.2) := hP.cell 1
          obtain ⟨f, hRB⟩ := rf_rb hF
          have z2 := hRB.cell (2 + c) (by omega)
          have y2 := hRB.frozen (2 + c)
          have z3 := hRB.cell (34 + c * 2) (by omega)
          have y3 := hRB.frozen (34 + c * 2)
          have z4 := hRB.cell (34 + c * 2 + 1) (by omega)
          have y4 := hRB.frozen (34 + c * 2 + 1)
          have z5 := hRB.cell (98 + c) (by omega)
          have y5 := hRB.frozen (98 + c)
          have hPT := rf_ne hF hP (by decide)
          have hS8 : (w7.drew.setCell ⟨T, 2 + c, none⟩ (.int .i64 1)).cell? ⟨N9, 0, none⟩ = some (.string p.1) ∧ (w7.drew.setCell ⟨T, 2 + c, none⟩ (.int .i64 1)).cell? ⟨N9, 1, none⟩ = some (.string p.2) := by
            have h9 := (hP.below (Below.refl w7.heap.size w7).drew).far (p := ⟨T, 2 + c, none⟩) hPT (.int .i64 1)
            exact ⟨h9.cell 0, h9.cell 1⟩
          have hk2 : Keep [T] w7 (((w7.setCell ⟨T, 2 + c, none⟩ (.int .i64 1)).setCell ⟨T, 34 + c * 2, none⟩ (.string p.1)).setCell ⟨T, 34 + c * 2 + 1, none⟩ (.string p.2)) := ((((Keep.refl [T] w7).setCell (p := ⟨T, 2 + c, none⟩) (by simp) (.int .i64 1)).setCell (p := ⟨T, 34 + c * 2, none⟩) (by simp) (.string p.1)).setCell (p := ⟨T, 34 + c * 2 + 1, none⟩) (by simp) (.string p.2))
          have hF2 := hF.setPair p hc32
          have hR2 := RootN.keepT hR hk2 (fun x hx => by obtain rfl := List.mem_singleton.1 hx; exact ⟨_, hRB⟩)
          have hB2 : Below w.heap.size w (((w7.setCell ⟨T, 2 + c, none⟩ (.int .i64 1)).setCell ⟨T, 34 + c * 2, none⟩ (.string p.1)).setCell ⟨T, 34 + c * 2 + 1, none⟩ (.string p.2)) := (((hB.setCell (p := ⟨T, 2 + c, none⟩) hTge (.int .i64 1)).setCell (p := ⟨T, 34 + c * 2, none⟩) hTge (.string p.1)).setCell (p := ⟨T, 34 + c * 2 + 1, none⟩) hTge (.string p.2))
          have hdr := (Below.refl (((w7.setCell ⟨T, 2 + c, none⟩ (.int .i64 1)).setCell ⟨T, 34 + c * 2, none⟩ (.string p.1)).setCell ⟨T, 34 + c * 2 + 1, none⟩ (.string p.2)).heap.size (((w7.setCell ⟨T, 2 + c, none⟩ (.int .i64 1)).setCell ⟨T, 34 + c * 2, none⟩ (.string p.1)).setCell ⟨T, 34 + c * 2 + 1, none⟩ (.string p.2))).drew
          have HF2 := Lib.hid (RfN.below _ hF2 hdr)
          have HR2 := Lib.hid (RootN.below hR2 hdr)
          have HB2 := Lib.hid hB2.drew
          clear hk2 hF2 hR2 hB2 hdr hRB hF hR hB
          clear hPT hP
          go_upto_region 10 with (fail)
          refine wp_region_late (S := fun w' => w'.cell? ⟨N9, 0, none⟩ = some (.string p.1) ∧ w'.cell? ⟨N9, 1, none⟩ = some (.string p.2)) (st := 12) (by kernel_rfl) ?_
          have hS : w7.drew.cell? ⟨N9, 0, none⟩ = some (.string p.1) ∧ w7.drew.cell? ⟨N9, 1, none⟩ = some (.string p.2) := ⟨q0, q1⟩
          refine wpAnyL_take0 (i := 0) (oi := { dst := some 42, op := Go.Op.move (Go.Operand.tmp 5), type := 37, pos := "law.go:100", after := #[], guard := none }) (v := .pointer (some ⟨T, 0, none⟩)) rfl (by kernel_rfl) (by kernel_rfl) (by kernel_rfl) (by kernel_rfl) (fun _ _ _ h => h) hS (Or.inl ⟨by rfl, fun w hSw => ?_⟩) ?_
          · go_split_ands
            go_simp
          try simp only [Act.put, List.setIfInBounds_toArray, List.set_cons_zero, List.set_cons_succ]
          refine wpAnyL_take0 (i := 1) (oi := { dst := some 43, op := Go.Op.move (Go.Operand.tmp 8), type := 3, pos := "law.go:100", after := #[], guard := none }) (v := .int .i64 c) rfl (by kernel_rfl) (by kernel_rfl) (by kernel_rfl) (by kernel_rfl) (fun _ _ _ h => h) hS (Or.inl ⟨by rfl, fun w hSw => ?_⟩) ?_
          · go_split_ands
            go_simp
          try simp only [Act.put, List.setIfInBounds_toArray, List.set_cons_zero, List.set_cons_succ]
          refine wpAnyL_take0 (i := 2) (oi := { dst := some 44, op := Go.Op.move (Go.Operand.tmp 5), type := 37, pos := "law.go:100", after := #[{ on := 8, ground := Go.Ground.gcOnly Go.Departure.lateStores }], guard := none }) (v := .pointer (some ⟨T, 0, none⟩)) rfl (by kernel_rfl) (by kernel_rfl) (by kernel_rfl) (by kernel_rfl) (fun _ _ _ h => h) hS (Or.inl ⟨by rfl, fun w hSw => ?_⟩) ?_
          · go_split_ands
            go_simp
          try simp only [Act.put, List.setIfInBounds_toArray, List.set_cons_zero, List.set_cons_succ]
          refine wpAnyL_take0 (i := 3) (oi := { dst := some 45, op := Go.Op.move (Go.Operand.tmp 8), type := 3, pos := "law.go:100", after := #[{ on := 8, ground := Go.Ground.gcOnly Go.Departure.lateStores }], guard := none }) (v := .int .i64 c) rfl (by kernel_rfl) (by kernel_rfl) (by kernel_rfl) (by kernel_rfl) (fun _ _ _ h => h) hS (Or.inl ⟨by rfl, fun w hSw => ?_⟩) ?_
          · go_split_ands
            go_simp
          try simp only [Act.put, List.setIfInBounds_toArray, List.set_cons_zero, List.set_cons_succ]
          refine wpAnyL_take (i := 4) (oi := { dst := some 46, op := Go.Op.load 52 (Go.Operand.tmp 9), type := 52, pos := "law.go:100", after := #[{ on := 8, ground := Go.Ground.gcOnly Go.Departure.lateStores }], guard := none }) (v := .agg #[.string p.1, .string p.2]) rfl (by kernel_rfl) (by kernel_rfl) (by kernel_rfl) (by kernel_rfl) (fun _ _ _ h => h) hS (Or.inl ⟨by rfl, fun w hSw => ?_⟩) ?_
          · go_split_ands
            go_simp
          try simp only [Act.put, List.setIfInBounds_toArray, List.set_cons_zero, List.set_cons_succ]
          refine wpAnyL_take0 (i := 5) (oi := { dst := some 47, op := Go.Op.nilCheck (Go.Operand.tmp 42), type := 0, pos := "law.go:100", after := #[{ on := 0, ground := Go.Ground.data }], guard := none }) (v := .pointer (some ⟨T, 0, none⟩)) rfl (by kernel_rfl) (by kernel_rfl) (by kernel_rfl) (by kernel_rfl) (fun _ _ _ h => h) hS (Or.inl ⟨by rfl, fun w hSw => ?_⟩) ?_
          · go_split_ands
            go_simp
          try simp only [Act.put, List.setIfInBounds_toArray, List.set_cons_zero, List.set_cons_succ]
          refine wpAnyL_take0 (i := 6) (oi := { dst := some 48, op := Go.Op.fieldAddr 60 (Go.Operand.tmp 47) 2, type := 0, pos := "law.go:100", after := #[{ on := 5, ground := Go.Ground.data }], guard := none }) (v := .pointer (some ⟨T, 2, none⟩)) rfl (by kernel_rfl) (by kernel_rfl) (by kernel_rfl) (by kernel_rfl) (fun _ _ _ h => h) hS (Or.inl ⟨by rfl, fun w hSw => ?_⟩) ?_
          · go_split_ands
            go_simp
          try simp only [Act.put, List.setIfInBounds_toArray, List.set_cons_zero, List.set_cons_succ]
          refine wpAnyL_take0 (i := 9) (oi := { dst := some 50, op := Go.Op.nilCheck (Go.Operand.tmp 44), type := 0, pos := "law.go:100", after := #[{ on := 2, ground := Go.Ground.data }], guard := none }) (v := .pointer (some ⟨T, 0, none⟩)) rfl (by kernel_rfl) (by kernel_rfl) (by kernel_rfl) (by kernel_rfl) (fun _ _ _ h => h) hS (Or.inl ⟨by rfl, fun w hSw => ?_⟩) ?_
          · go_split_ands
            go_simp
          try simp only [Act.put, List.setIfInBounds_toArray, List.set_cons_zero, List.set_cons_succ]
          refine wpAnyL_take0 (i := 10) (oi := { dst := some 51, op := Go.Op.fieldAddr 60 (Go.Operand.tmp 50) 3, type := 0, pos := "law.go:100", after := #[{ on := 9, ground := Go.Ground.data }], guard := none }) (v := .pointer (some ⟨T, 34, none⟩)) rfl (by kernel_rfl) (by kernel_rfl) (by kernel_rfl) (by kernel_rfl) (fun _ _ _ h => h) hS (Or.inl ⟨by rfl, fun w hSw => ?_⟩) ?_
          · go_split_ands
            go_simp
          try simp only [Act.put, List.setIfInBounds_toArray, List.set_cons_zero, List.set_cons_succ]
          refine wpAnyL_ready (rs := [7]) (by kernel_rfl) (by simp) ?_
          refine AllReadyL.cons (o := { dst := some 49, op := Go.Op.indexAddr 56 (Go.Operand.tmp 48) (Go.Operand.tmp 43), type := 0, pos := "law.go:100", after := #[{ on := 6, ground := Go.Ground.data }, { on := 1, ground := Go.Ground.data }, { on := 0, ground := Go.Ground.phase }, { on := 1, ground := Go.Ground.phase }, { on := 2, ground := Go.Ground.textOnly Go.Departure.lateStores }, { on := 3, ground := Go.Ground.textOnly Go.Departure.lateStores }, { on := 4, ground := Go.Ground.textOnly Go.Departure.lateStores }], guard := none }) rfl (fun K hK => ?_) AllReadyL.nil
          go_simp
          refine hK.out _ _ (fun _ => hS) ?_
          clear hK K
          try simp only [Act.put, List.setIfInBounds_toArray, List.set_cons_zero, List.set_cons_succ]
          refine wpAnyL_ready (rs := [8]) (by kernel_rfl) (by simp) ?_
          refine AllReadyL.cons (o := { dst := none, op := Go.Op.store 3 (Go.Operand.tmp 49) (Go.Operand.const (Go.Value.int Go.IntKind.i64 1)), type := 0, pos := "law.go:100", after := #[{ on := 7, ground := Go.Ground.data }, { on := 0, ground := Go.Ground.phase }, { on := 1, ground := Go.Ground.phase }, { on := 2, ground := Go.Ground.textOnly Go.Departure.lateStores }, { on := 3, ground := Go.Ground.textOnly Go.Departure.lateStores }, { on := 4, ground := Go.Ground.textOnly Go.Departure.lateStores }], guard := none }) rfl (fun K hK => ?_) AllReadyL.nil
          go_simp
          refine hK.out _ _ (fun _ => hS8) ?_
          clear hK K
          try simp only [Act.put, List.setIfInBounds_toArray, List.set_cons_zero, List.set_cons_succ]
          refine wpAnyL_ready (rs := [11]) (by kernel_rfl) (by simp) ?_
          refine AllReadyL.cons (o := { dst := some 52, op := Go.Op.indexAddr 57 (Go.Operand.tmp 51) (Go.Operand.tmp 45), type := 0, pos := "law.go:100", after := #[{ on := 10, ground := Go.Ground.data }, { on := 3, ground := Go.Ground.data }, { on := 0, ground := Go.Ground.phase }, { on := 1, ground := Go.Ground.phase }, { on := 2, ground := Go.Ground.phase }, { on := 3, ground := Go.Ground.phase }, { on := 4, ground := Go.Ground.phase }, { on := 5, ground := Go.Ground.phase }, { on := 6, ground := Go.Ground.phase }, { on := 7, ground := Go.Ground.phase }, { on := 8, ground := Go.Ground.phase }], guard := none }) rfl (fun K hK => ?_) AllReadyL.nil
          go_simp
          refine hK.out _ _ (fun _ => hS8) ?_
          clear hK K
          try simp only [Act.put, List.setIfInBounds_toArray, List.set_cons_zero, List.set_cons_succ]
          refine wpAnyL_ready (rs := [12]) (by kernel_rfl) (by simp) ?_
          refine AllReadyL.cons (o := { dst := none, op := Go.Op.store 55 (Go.Operand.tmp 52) (Go.Operand.tmp 46), type := 0, pos := "law.go:100", after := #[{ on := 11, ground := Go.Ground.data }, { on := 4, ground := Go.Ground.data }, { on := 8, ground := Go.Ground.chain }, { on := 0, ground := Go.Ground.phase }, { on := 1, ground := Go.Ground.phase }, { on := 2, ground := Go.Ground.phase }, { on := 3, ground := Go.Ground.phase }, { on := 4, ground := Go.Ground.phase }, { on := 5, ground := Go.Ground.phase }, { on := 6, ground := Go.Ground.phase }, { on := 7, ground := Go.Ground.phase }, { on := 8, ground := Go.Ground.phase }], guard := none }) rfl (fun K hK => ?_) AllReadyL.nil
          go_simp
          refine hK.out _ _ (late_no (by kernel_rfl)) ?_
          clear hK K
          try simp only [Act.put, List.setIfInBounds_toArray, List.set_cons_zero, List.set_cons_succ]
          refine wpAnyL_done (by kernel_rfl) ?_ _
          clear z2 y2 z3 y3 z4 y4 z5 y5
          clear q0 q1 hS hS8
          generalize (((w7.setCell ⟨T, 2 + c, none⟩ (.int .i64 1)).setCell ⟨T, 34 + c * 2, none⟩ (.string p.1)).setCell ⟨T, 34 + c * 2 + 1, none⟩ (.string p.2)).drew = W9 at *
          have hkn := hk.set (c := c) (x := some p) Known.no (.inr rfl) (fun p' e => by obtain rfl := Option.some.inj e; exact ⟨hp1, hp2⟩)
          have HBI : Hid (BI w (j + 1) b1 T W9) := Lib.hid ⟨_, _, _, _, HR2.out, HF2.out, hkn, by omega, by omega, hTge, HB2.out⟩
          clear HR2 HF2 HB2 hkn hk
          try dsimp only
          go_wp2_with fail
          exact ⟨⟨j + 1, b1, T, by omega, by omega, by go_num, rfl, rfl, HBI.out⟩, by simp [intOf]; omega⟩

      · have G : (24 : Int) ≤ (j : Int) := by omega
        obtain rfl : j = 24 := by omega
        have HBI2 : Hid (BI w 24 b T (wr.alloc (.cells #[.int .u8 dd, .int .u8 ii, .string q.1, .string q.2, .slice ab lb cb] 88))) := Lib.hid ⟨_, _, _, _, RootN.below hR hBl, RfN.below _ hF hBl, hk, hn0, hm0, hTge, hB.trans (hBl.mono hB.size)⟩
        clear hAct hBl hF hR hB hps HBI hk
        generalize wr.alloc (.cells #[.int .u8 dd, .int .u8 ii, .string q.1, .string q.2, .slice ab lb cb] 88) = W3 at *
        go_wp2_with fail
        go_ret2
        exact ⟨b, T, rfl, HBI2.out⟩
    · obtain rfl : j = len := by omega
      have G : ¬ ((j : Int) < (j : Int)) := by omega
      have HBI2 : Hid (BI w 24 b T wr) := Lib.hid (by
        obtain ⟨P, K, n, m, h1, h2, h3, h4, h5, h6⟩ := HBI.out
        exact ⟨P, K, n, m, h1, h2, h3, by omega, by omega, h6⟩)
      clear HBI
      go_wp2_with fail
      go_ret2
      exact ⟨b, T, rfl, HBI2.out⟩
end Go.Proofs.YtchimfgbdfmegaaGreat
