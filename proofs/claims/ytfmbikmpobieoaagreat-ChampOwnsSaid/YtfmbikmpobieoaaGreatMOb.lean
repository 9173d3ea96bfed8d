/- ChampOwns, part by part. -/
import Derived.Test.YtfmbikmpobieoaaGreatMOa
import Derived.BigQuiet
import Derived.Deep.RegionHeld3
namespace Go.Proofs.YtfmbikmpobieoaaGreat.champOwns
open Go.ChangeShapes Go.WideShapes Go.RowKit Go.Lib
set_option linter.unusedVariables false
set_option linter.unusedSimpArgs false
set_option maxRecDepth 100000
attribute [local irreducible] cnt
def GK (k0 k1 m : Int) (w0 : World) (N5 N6 : Nat) (Z : Nat → Prop) (bs0 : List Nat) (ls0 : List Value) (ts0 : List (Nat × List Pr)) (us0 : List (Value × List Pr)) (n0 : Nat) (w : World) (e : Ending) (w' : World) : Prop :=
  ∃ (vs : List Ver) (v5' v6' : Value) (b' : Nat) (v' : Value) (ps' : List Pr), e = .returned (.tuple #[.pointer (some ⟨b', 0, none⟩), v']) ∧
      VB Z k0 k1 m w0.heap.size N5 N6 w' v5' v6' (bs0 ++ vs.map (·.b)) (ls0 ++ vs.map (·.v)) (ts0 ++ vs.map fun e => (e.b, e.ps)) (us0 ++ vs.map fun e => (e.v, e.ps)) ∧ (b', ps') ∈ ts0 ++ vs.map (fun e => (e.b, e.ps)) ∧ (v', ps') ∈ us0 ++ vs.map (fun e => (e.v, e.ps)) ∧ RisesL ps' ∧ ps'.length ≤ n0 + 20 ∧ (∀ x ∈ ps', x.1.size ≤ 40) ∧ VerP (n0 + 20) vs ∧ vs.length ≤ 20 ∧ KT w w' ∧ Below w0.heap.size w0 w'
set_option maxHeartbeats 32000000 in
theorem growK_any (k0 k1 m : Int) (w0 : World) (h0 : U64 k0) (h1 : U64 k1) (a : Option Addr) (len cap : Nat) (hA : ArgA w0 a len cap) (Z : Nat → Prop) (tk : Option Nat) (TA : Option Addr) (hpt : pt tk = .pointer TA) (N4 N5 N6 : Nat) (v5 v6 : Value) (bs0 : List Nat) (ls0 : List Value) (ts0 : List (Nat × List Pr)) (us0 : List (Value × List Pr)) (b0 : Nat) (v0 : Value) (ps0 : List Pr) (n0 NV0 : Nat) (w : World)
    (hB0 : Below w0.heap.size w0 w) (hV0 : VX Z k0 k1 m w0.heap.size w v5 v6 bs0 ls0 ts0 us0) (hH0 : Blk w N4 26 #[.int .u64 k0, .int .u64 k1, .int .u64 m]) (h50 : Blk w N5 49 #[v5]) (h60 : Blk w N6 50 #[v6]) (hN5 : w0.heap.size ≤ N5) (hN6 : w0.heap.size ≤ N6) (hv0 : TV w tk false) (hb : (b0, ps0) ∈ ts0) (hvm : (v0, ps0) ∈ us0) (hr0 : RisesL ps0) (hn : ps0.length ≤ n0) (hn0 : n0 ≤ 600) (hz0 : ∀ x ∈ ps0, x.1.size ≤ 40) (hl5 : bs0.length = NV0) (hl6 : ls0.length = NV0) (hNV0 : NV0 ≤ 1000) :
    Calls Tryz.prog 21 #[.slice a len cap, .pointer TA, .pointer (some ⟨b0, 0, none⟩), v0, .bool true, .pointer (some ⟨N4, 0, none⟩), .pointer (some ⟨N5, 0, none⟩), .pointer (some ⟨N6, 0, none⟩)] w (GK k0 k1 m w0 N5 N6 Z bs0 ls0 ts0 us0 n0 w) := by
  obtain ⟨i30, hi30, hy300, hy301, hy302⟩ := info_parts info30
  obtain ⟨i32, hi32, hy320, hy321, hy322⟩ := info_parts info32
  have hl1 := hA.len_le
  have HA := Lib.hid hA
  have HH0 := Lib.hid hH0
  have HV0 := Lib.hid hv0
  have HL5 := Lib.hid hl5
  have HL6 := Lib.hid hl6
  clear hA hH0 hv0 hl5 hl6
  obtain ⟨A0, c0, ev0, -⟩ := (hV0.eL (v0, ps0) hvm).rd
  simp only at ev0
  subst ev0
  go_enter Tryz.func21, Tryz.ntmps21
  go_wp2_with fail
  go_loopw [2, 3, 20] (fun v2 v3 vi wr => ∃ (j : Nat) (vs : List Ver) (v5 v6 : Value) (b : Nat) (ps : List Pr), j ≤ len ∧ j ≤ 20 ∧ vs.length = j ∧ vi = .int .i64 j ∧ v2 = .pointer (some ⟨b, 0, none⟩) ∧
      VX Z k0 k1 m w0.heap.size wr v5 v6 (bs0 ++ vs.map (·.b)) (ls0 ++ vs.map (·.v)) (ts0 ++ vs.map fun e => (e.b, e.ps)) (us0 ++ vs.map fun e => (e.v, e.ps)) ∧ Blk wr N5 49 #[v5] ∧ Blk wr N6 50 #[v6] ∧ (b, ps) ∈ ts0 ++ vs.map (fun e => (e.b, e.ps)) ∧ (v3, ps) ∈ us0 ++ vs.map (fun e => (e.v, e.ps)) ∧ RisesL ps ∧ ps.length ≤ n0 + j ∧ (∀ x ∈ ps, x.1.size ≤ 40) ∧ VerP (n0 + 20) vs ∧ KT w wr ∧ Below w0.heap.size w0 wr) (fun v2 v3 vi wr => len - (intOf vi).toNat)
  case atStart => exact ⟨0, [], v5, v6, b0, ps0, by omega, by omega, rfl, rfl, rfl, by simpa using hV0, h50, h60, by simpa using hb, by simpa using hvm, hr0, hn, hz0, fun e he => by simp at he, KT.refl _, hB0⟩
  case round =>
    clear hV0 h50 h60 hb hvm hr0 hn hz0 hB0
    obtain ⟨j, vs, v5, v6, b, ps, hj, hj20, hvl', rfl, rfl, hV, h5, h6, hbm, hvm, hr, hn, hz1, hPs, hK0, hB⟩ := hrel
    have hvl := Lib.hid hvl'
    have HPs := Lib.hid hPs
    have hH := HH0.out.kt hK0 (by decide)
    have hv := HV0.out.kt hK0
    by_cases hlt : j < len
    · obtain ⟨x, dd, ka, q, ow, rfl, hdd, hka, c0', c1, c2, c3, c4⟩ := HA.out.at hB j hlt
      have L1 : (j : Int) < (len : Int) := by omega
      have L2 : IntKind.i64.wrap ((j : Int) + 1) = ((j + 1 : Nat) : Int) := by rw [IntWalk.i64_in _ (by unfold maxLen at hl1; omega)]; omega
      go_upto_region 4 with (fail)
      have hBl := (Below.refl _ wr).alloc (Nat.le_refl _) (.cells #[.int .u8 dd, .string q.1, .string q.2, .int .u8 ka, .bool ow] 36)
      have hAct := Blk.new wr 36 #[.int .u8 dd, .string q.1, .string q.2, .int .u8 ka, .bool ow]
      have hB := hB.trans (hBl.mono hB.size)
      have hK0 := hK0.trans (KT.ofBelow hBl)
      have hV := hV.below hBl
      have h5 := h5.below hBl
      have h6 := h6.below hBl
      have hH := hH.below hBl
      have hv := hv.below hBl

      clear c0' c1 c2 c3 c4 hBl
      generalize wr.alloc (.cells #[.int .u8 dd, .string q.1, .string q.2, .int .u8 ka, .bool ow] 36) = W1 at *
      generalize wr.heap.size = N16 at *
      by_cases h20 : j < 20
      · have G : ¬ ((20 : Int) ≤ (j : Int)) := by omega
        obtain ⟨NV, hNV⟩ : ∃ NV, NV = NV0 + j := ⟨_, rfl⟩
        have hNVb : NV ≤ 1020 := by omega
        have e5 : (bs0 ++ vs.map (·.b)).length = NV := by rw [List.length_append, List.length_map, HL5.out, hNV, hvl']
        have e6 : (ls0 ++ vs.map (·.v)).length = NV := by rw [List.length_append, List.length_map, HL6.out, hNV, hvl']
        obtain ⟨A5, c5, rfl⟩ := own_formN hV.r5
        obtain ⟨A6, c6, rfl⟩ := own_formN hV.r6
        rw [e5] at hV h5
        rw [e6] at hV h6
        obtain ⟨A, c, evk, -⟩ := (hV.eL _ hvm).rd
        simp only at evk
        subst evk
        obtain ⟨bs, hbs⟩ : ∃ bs, bs = bs0 ++ vs.map (·.b) := ⟨_, rfl⟩
        obtain ⟨ls, hls⟩ : ∃ ls, ls = ls0 ++ vs.map (·.v) := ⟨_, rfl⟩
        obtain ⟨ts, hts⟩ : ∃ ts, ts = ts0 ++ vs.map fun e => (e.b, e.ps) := ⟨_, rfl⟩
        obtain ⟨us, hus⟩ : ∃ us, us = us0 ++ vs.map fun e => (e.v, e.ps) := ⟨_, rfl⟩
        have HSN := Lib.hid (fun (b : Nat) (v : Value) (ps : List Pr) (W : World) (gn5 cn5 gn6 cn6 : Nat) (h : VX Z k0 k1 m w0.heap.size W (.slice (some ⟨gn5, 0, none⟩) (NV + 1) cn5) (.slice (some ⟨gn6, 0, none⟩) (NV + 1) cn6) (bs ++ [b]) (ls ++ [v]) (ts ++ [(b, ps)]) (us ++ [(v, ps)])) =>
          (by rw [hbs, hls, hts, hus] at h; simpa [List.append_assoc] using h : VX Z k0 k1 m w0.heap.size W (.slice (some ⟨gn5, 0, none⟩) (NV + 1) cn5) (.slice (some ⟨gn6, 0, none⟩) (NV + 1) cn6) (bs0 ++ (vs ++ [(⟨b, v, ps⟩ : Ver)]).map (·.b)) (ls0 ++ (vs ++ [(⟨b, v, ps⟩ : Ver)]).map (·.v)) (ts0 ++ (vs ++ [(⟨b, v, ps⟩ : Ver)]).map fun e => (e.b, e.ps)) (us0 ++ (vs ++ [(⟨b, v, ps⟩ : Ver)]).map fun e => (e.v, e.ps))))
        rw [← hbs, ← hls, ← hts, ← hus] at hV
        rw [← hbs] at e5
        rw [← hls] at e6
        rw [← hts] at hbm
        rw [← hus] at hvm
        have HBL := Lib.hid e5
        have HLL := Lib.hid e6
        have HRK := Lib.hid (fun (W' : World) {v5 v6 : Value} {bs' : List Nat} {ls' : List Value} {ts' : List (Nat × List Pr)} (h : VX Z k0 k1 m w0.heap.size W' v5 v6 bs' ls' ts' us) => (by
          obtain ⟨A', c', e', hr'⟩ := OwnR.rd (h.eL _ hvm)
          simp only [Value.slice.injEq] at e'
          obtain ⟨rfl, -⟩ := e'
          exact hr' : Rd W' A ps))
        have HTK := Lib.hid (fun (W' : World) (h : VX Z k0 k1 m w0.heap.size W' (.slice A5 NV c5) (.slice A6 NV c6) bs ls ts us) => h.eT _ hbm)
        clear hNV hbs hls hts hus e5 e6 hvm hbm hPs hvl'
        have d0 : W1.cell? ⟨N16, 0, none⟩ = some (.int .u8 dd) := hAct.cell 0
        have d1 : W1.cell? ⟨N16, 1, none⟩ = some (.string q.1) := hAct.cell 1
        have d2 : W1.cell? ⟨N16, 2, none⟩ = some (.string q.2) := hAct.cell 2
        have kfew := few_any q W1
        have hp1 : (few40 q).1.size ≤ 40 := cut40_size q.1
        generalize few40 q = p at *
        have hp1000 : p.1.size ≤ 1000 := by omega
        go_wp2_with fail
        refine kfew.mono ?_
        rintro e w3 ⟨rfl, hB3⟩
        clear kfew d1 d2 d0
        go_upto_region 6 with (fail)
        have hBl := hB3.alloc hB3.size (.cells #[.string p.1, .string p.2] 34)
        have hP := Blk.new w3 34 #[.string p.1, .string p.2]
        have hAct := hAct.below hBl
        have hB := hB.trans (hBl.mono hB.size)
        have hK0 := hK0.trans (KT.ofBelow hBl)
        have hV := hV.below hBl
        have h5 := h5.below hBl
        have h6 := h6.below hBl
        have hH := hH.below hBl
        have hv := hv.below hBl

        clear hBl hB3
        generalize w3.alloc (.cells #[.string p.1, .string p.2] 34) = W4 at *
        generalize w3.heap.size = N17 at *
        have d0 : W4.cell? ⟨N16, 0, none⟩ = some (.int .u8 dd) := hAct.cell 0
        have hTk := HTK.out _ hV
        have kd := drop_D tk TA hpt hv p.1 h0 h1 hp1000 hB.size hV.xlt hTk hr (by omega)
        have kp := put_D tk TA hpt hv p h0 h1 hp1000 hB.size hV.xlt hTk hr (by omega) (fun x hx => Nat.le_trans (hz1 x hx) (by omega))
        clear hAct hTk HTK
        by_cases h3 : dd % 4 = 3
        · have D3 := (dmod hdd).1 h3
          have s0 : W4.cell? ⟨N4, 0, none⟩ = some (.int .u64 k0) := hH.cell 0
          have s1 : W4.cell? ⟨N4, 1, none⟩ = some (.int .u64 k1) := hH.cell 1
          have s2 : W4.cell? ⟨N4, 2, none⟩ = some (.int .u64 m) := hH.cell 2
          have p0 : W4.cell? ⟨N17, 0, none⟩ = some (.string p.1) := hP.cell 0
          have p1 : W4.cell? ⟨N17, 1, none⟩ = some (.string p.2) := hP.cell 1
          go_wp2_with fail
          refine kd.mono ?_
          rintro e w5 ⟨b1, gb, rfl, hT1, hB5⟩
          clear kp kd s0 s1 s2 p0 p1
          have hB := hB.trans (hB5.mono hB.size)
          have hK0 := hK0.trans (KT.ofBelow hB5)
          have hV := hV.below hB5
          have h5 := h5.below hB5
          have h6 := h6.below hB5
          have hH := hH.below hB5
          have hv := hv.below hB5
          have hP := hP.below hB5
          have hV := hV.addT hT1
          clear hT1 hB5
          have p0 : w5.cell? ⟨N17, 0, none⟩ = some (.string p.1) := hP.cell 0
          have p1 : w5.cell? ⟨N17, 1, none⟩ = some (.string p.2) := hP.cell 1
          have kc := refDrop_any A c ps p.1 _ (HRK.out _ hV) (by omega)
          skip
          go_wp2_with fail
          refine kc.mono ?_
          rintro e w6 ⟨v8, rfl, hO8, hB6⟩
          clear kc p0 p1
          have hO8 := OwnR.base hO8 hV.hb
          have hB := hB.trans (hB6.mono hB.size)
          have hK0 := hK0.trans (KT.ofBelow hB6)
          have hV := hV.below hB6
          have h5 := h5.below hB6
          have h6 := h6.below hB6
          have hH := hH.below hB6
          have hv := hv.below hB6
          have hV := hV.addL hO8
          obtain ⟨A8, c8, rfl, -⟩ := hO8.rd
          obtain ⟨W, hW⟩ : ∃ W, W = w6 := ⟨_, rfl⟩
          subst hW
          clear hO8 hB6 hP d0
          go_upto_region 12 with (fail)
          refine wp_region_late (S := fun w' => w'.cell? ⟨N5, 0, none⟩ = some (.slice A5 NV c5) ∧ w'.cell? ⟨N6, 0, none⟩ = some (.slice A6 NV c6)) (st := 8) (by kernel_rfl) ?_
          have hS : (fun w' : World => w'.cell? ⟨N5, 0, none⟩ = some (.slice A5 NV c5) ∧ w'.cell? ⟨N6, 0, none⟩ = some (.slice A6 NV c6)) W.drew := ⟨h5.cell 0, h6.cell 0⟩
          have hdr2 : Below W.heap.size W W.drew := (Below.refl _ W).drew
          have hV := hV.below hdr2
          have h5 := h5.below hdr2
          have h6 := h6.below hdr2
          have hK0 := hK0.trans (KT.ofBelow hdr2)
          have hB := hB.drew
          clear hdr2
          generalize W.drew = Wd at *
          refine wpAnyL_take (i := 0) (oi := { dst := some 59, op := Go.Op.load 49 (Go.Operand.tmp 6), type := 49, pos := "law.go:173", after := #[], guard := none }) (v := .slice A5 NV c5) rfl (by kernel_rfl) (by kernel_rfl) (by kernel_rfl) (by kernel_rfl) (fun _ _ _ h => h) hS (Or.inl ⟨by rfl, fun w hSw => ?_⟩) ?_
          · go_split_ands
            go_simp
          try simp only [Act.put, List.setIfInBounds_toArray, List.set_cons_zero, List.set_cons_succ]
          refine wpAnyL_take0 (i := 1) (oi := { dst := some 60, op := Go.Op.move (Go.Operand.tmp 2), type := 30, pos := "law.go:173", after := #[], guard := none }) (v := .pointer (some ⟨b1, 0, none⟩)) rfl (by kernel_rfl) (by kernel_rfl) (by kernel_rfl) (by kernel_rfl) (fun _ _ _ h => h) hS (Or.inl ⟨by rfl, fun w hSw => ?_⟩) ?_
          · go_split_ands
            go_simp
          try simp only [Act.put, List.setIfInBounds_toArray, List.set_cons_zero, List.set_cons_succ]
          refine wpAnyL_take2 (i := 4) (oi := { dst := some 63, op := Go.Op.load 50 (Go.Operand.tmp 7), type := 50, pos := "law.go:173", after := #[], guard := none }) (v := .slice A6 NV c6) 7 rfl (by kernel_rfl) (by kernel_rfl) (by kernel_rfl) (by kernel_rfl) (fun _ _ _ h => h) hS (Or.inl ⟨by rfl, fun w hSw => ?_⟩) ?_
          · go_split_ands
            go_simp
          try simp only [Act.put, List.setIfInBounds_toArray, List.set_cons_zero, List.set_cons_succ]
          refine wpAnyL_take0 (i := 5) (oi := { dst := some 64, op := Go.Op.move (Go.Operand.tmp 3), type := 32, pos := "law.go:173", after := #[], guard := none }) (v := .slice A8 (dropK ps p.1).length c8) rfl (by kernel_rfl) (by kernel_rfl) (by kernel_rfl) (by kernel_rfl) (fun _ _ _ h => h) hS (Or.inl ⟨by rfl, fun w hSw => ?_⟩) ?_
          · go_split_ands
            go_simp
          try simp only [Act.put, List.setIfInBounds_toArray, List.set_cons_zero, List.set_cons_succ]
          refine wpAnyL_ready (rs := [2, 6]) (by kernel_rfl) (by simp) ?_
          refine AllReadyL.cons (o := { dst := some 61, op := Go.Op.buildSlice 49 1 #[(0, Go.Operand.tmp 60)], type := 49, pos := "law.go:173", after := #[{ on := 1, ground := Go.Ground.data }], guard := none }) rfl (fun K' hK => ?_) (AllReadyL.cons (o := { dst := some 65, op := Go.Op.buildSlice 50 1 #[(0, Go.Operand.tmp 64)], type := 50, pos := "law.go:173", after := #[{ on := 5, ground := Go.Ground.data }], guard := none }) rfl (fun K' hK => ?_) AllReadyL.nil)
          · go_simp
            have hBl := (Below.refl _ Wd).alloc (Nat.le_refl _) (.cells #[.pointer (some ⟨b1, 0, none⟩)] 30)
            have na : Blk (Wd.alloc (.cells #[.pointer (some ⟨b1, 0, none⟩)] 30)) Wd.heap.size 30 #[.pointer (some ⟨b1, 0, none⟩)] := Blk.new Wd 30 #[.pointer (some ⟨b1, 0, none⟩)]
            have hV := hV.below hBl
            have h5 := h5.below hBl
            have h6 := h6.below hBl
            have hK0 := hK0.trans (KT.ofBelow hBl)
            have hB := hB.trans (hBl.mono hB.size)
            skip
            refine hK.out _ _ (fun _ => ⟨h5.cell 0, h6.cell 0⟩) ?_
            clear hK K' hS hBl
            try simp only [Act.put, List.setIfInBounds_toArray, List.set_cons_zero, List.set_cons_succ]
            generalize Wd.alloc (.cells #[.pointer (some ⟨b1, 0, none⟩)] 30) = Wa at *
            generalize Wd.heap.size = Ba at *
            have hS : (fun w' : World => w'.cell? ⟨N5, 0, none⟩ = some (.slice A5 NV c5) ∧ w'.cell? ⟨N6, 0, none⟩ = some (.slice A6 NV c6)) Wa := ⟨h5.cell 0, h6.cell 0⟩
            refine wpAnyL_ready (rs := [3, 6]) (by kernel_rfl) (by simp) ?_
            refine AllReadyL.cons (o := { dst := some 62, op := Go.Op.call { callee := Go.Callee.builtin Go.Builtin.append, args := #[Go.Operand.tmp 59, Go.Operand.tmp 61], argTypes := #[49, 49] }, type := 49, pos := "law.go:173", after := #[{ on := 0, ground := Go.Ground.data }, { on := 2, ground := Go.Ground.data }], guard := none }) rfl (fun K' hK => ?_) (AllReadyL.cons (o := { dst := some 65, op := Go.Op.buildSlice 50 1 #[(0, Go.Operand.tmp 64)], type := 50, pos := "law.go:173", after := #[{ on := 5, ground := Go.Ground.data }], guard := none }) rfl (fun K' hK => ?_) AllReadyL.nil)
            · refine step_append_lies _ (by rfl) _ _ _ (by rfl) w0.heap.size 30 i30 _ 1 8 Tryz.underlying49 hi30 hy300 hy301 hy302 zsz_ptr (by decide) (.slice A5 NV c5) NV (kcs bs) (by rfl) (by have := hV.r5; rw [HBL.out] at this; exact this) ⟨Ba, 0, none⟩ 1 1 [.pointer (some ⟨b1, 0, none⟩)] (by rfl) rfl (World.news_of_block na) (by simp [Value.oneCell']) (by omega) (by unfold maxLen; omega) (by omega) hV.hb _ rfl ?_
              intro gn5 cn5 Wb hown1 hgrow1 hat1 hlt1
              have hV2 := hV.grow5 (g := gn5) (cap := cn5) (b := b1) hgrow1 (by rw [HBL.out]; exact hown1) hat1
              have h52 := hV.far5 hgrow1 h5 (by decide)
              have h62 := hV.far5 hgrow1 h6 (by decide)
              skip
              have hK2 := hK0.trans (KT.grown hV.r5 hgrow1 (.inl rfl))
              have hBn := hB.grown hgrow1 hB.size (own_ge hV.r5)
              rw [HBL.out] at hV2
              refine hK.out _ _ (fun _ => ⟨h52.cell 0, h62.cell 0⟩) ?_
              clear hK K' hS hgrow1 hat1 hlt1 hown1 na hV h5 h6 hB hK0
              try simp only [Act.put, List.setIfInBounds_toArray, List.set_cons_zero, List.set_cons_succ]
              have hV := hV2
              have h5 := h52
              have h6 := h62
              have hB := hBn
              have hK0 := hK2
              clear hV2 h52 h62 hBn hK2
              have hS : (fun w' : World => w'.cell? ⟨N5, 0, none⟩ = some (.slice A5 NV c5) ∧ w'.cell? ⟨N6, 0, none⟩ = some (.slice A6 NV c6)) Wb := ⟨h5.cell 0, h6.cell 0⟩
              refine wpAnyL_ready (rs := [6]) (by kernel_rfl) (by simp) ?_
              refine AllReadyL.cons (o := { dst := some 65, op := Go.Op.buildSlice 50 1 #[(0, Go.Operand.tmp 64)], type := 50, pos := "law.go:173", after := #[{ on := 5, ground := Go.Ground.data }], guard := none }) rfl (fun K' hK => ?_) AllReadyL.nil
              go_simp
              have hBl := (Below.refl _ Wb).alloc (Nat.le_refl _) (.cells #[.slice A8 (dropK ps p.1).length c8] 32)
              have nb : Blk (Wb.alloc (.cells #[.slice A8 (dropK ps p.1).length c8] 32)) Wb.heap.size 32 #[.slice A8 (dropK ps p.1).length c8] := Blk.new Wb 32 #[.slice A8 (dropK ps p.1).length c8]
              have hV := hV.below hBl
              have h5 := h5.below hBl
              have h6 := h6.below hBl
              have hK0 := hK0.trans (KT.ofBelow hBl)
              have hB := hB.trans (hBl.mono hB.size)
              skip
              refine hK.out _ _ (fun _ => ⟨h5.cell 0, h6.cell 0⟩) ?_
              clear hK K' hS hBl
              try simp only [Act.put, List.setIfInBounds_toArray, List.set_cons_zero, List.set_cons_succ]
              generalize Wb.alloc (.cells #[.slice A8 (dropK ps p.1).length c8] 32) = Wc at *
              generalize Wb.heap.size = Bb at *
              have hS : (fun w' : World => w'.cell? ⟨N5, 0, none⟩ = some (.slice A5 NV c5) ∧ w'.cell? ⟨N6, 0, none⟩ = some (.slice A6 NV c6)) Wc := ⟨h5.cell 0, h6.cell 0⟩
              refine wpAnyL_ready (rs := [7]) (by kernel_rfl) (by simp) ?_
              refine AllReadyL.cons (o := { dst := some 66, op := Go.Op.call { callee := Go.Callee.builtin Go.Builtin.append, args := #[Go.Operand.tmp 63, Go.Operand.tmp 65], argTypes := #[50, 50] }, type := 50, pos := "law.go:173", after := #[{ on := 4, ground := Go.Ground.data }, { on := 6, ground := Go.Ground.data }, { on := 3, ground := Go.Ground.chain }], guard := none }) rfl (fun K' hK => ?_) AllReadyL.nil
              refine step_append_lies _ (by rfl) _ _ _ (by rfl) w0.heap.size 32 i32 _ 1 24 Tryz.underlying50 hi32 hy320 hy321 hy322 zsz_sl (by decide) (.slice A6 NV c6) NV ls (by rfl) (by have := hV.r6; rw [HLL.out] at this; exact this) ⟨Bb, 0, none⟩ 1 1 [.slice A8 (dropK ps p.1).length c8] (by rfl) rfl (World.news_of_block nb) (by simp [Value.oneCell']) (by omega) (by unfold maxLen; omega) (by omega) hV.hb _ rfl ?_
              intro gn6 cn6 We hown1 hgrow1 hat1 hlt1
              have hV2 := hV.grow6 (g := gn6) (cap := cn6) (u := .slice A8 (dropK ps p.1).length c8) hgrow1 (by rw [HLL.out]; exact hown1)
              have h52 := hV.far6 hgrow1 h5 (by decide)
              have h62 := hV.far6 hgrow1 h6 (by decide)
              have hK2 := hK0.trans (KT.grown hV.r6 hgrow1 (.inr (.inl rfl)))
              have hBn := hB.grown hgrow1 hB.size (own_ge hV.r6)
              rw [HLL.out] at hV2
              refine hK.out _ _ (fun _ => ⟨h52.cell 0, h62.cell 0⟩) ?_
              clear hK K' hS hgrow1 hat1 hlt1 hown1 nb hV h5 h6 hB hK0
              try simp only [Act.put, List.setIfInBounds_toArray, List.set_cons_zero, List.set_cons_succ]
              have hV := hV2
              have h5 := h52
              have h6 := h62
              have hB := hBn
              have hK0 := hK2
              clear hV2 h52 h62 hBn hK2
              have hne := box_ne h5 h6
              have c5c := h5.cell 0
              have c5f := h5.frozen 0
              refine wpAnyL_ready (rs := [8]) (by kernel_rfl) (by simp) ?_
              refine AllReadyL.cons (o := { dst := none, op := Go.Op.store 49 (Go.Operand.tmp 6) (Go.Operand.tmp 62), type := 0, pos := "law.go:173", after := #[{ on := 3, ground := Go.Ground.data }, { on := 7, ground := Go.Ground.chain }, { on := 0, ground := Go.Ground.phase }, { on := 1, ground := Go.Ground.phase }, { on := 2, ground := Go.Ground.phase }, { on := 3, ground := Go.Ground.phase }, { on := 4, ground := Go.Ground.textOnly Go.Departure.inlinedCapture }, { on := 5, ground := Go.Ground.textOnly Go.Departure.lateStores }, { on := 6, ground := Go.Ground.textOnly Go.Departure.inlinedCapture }, { on := 7, ground := Go.Ground.textOnly Go.Departure.lateStoresUnsure }], guard := none }) rfl (fun K' hK => ?_) AllReadyL.nil
              go_simp
              refine hK.out _ _ (late_no (by kernel_rfl)) ?_
              clear hK K' c5c c5f
              try simp only [Act.put, List.setIfInBounds_toArray, List.set_cons_zero, List.set_cons_succ]
              have kp := (Keep.refl [N5] We).setCell (p := ⟨N5, 0, none⟩) (by simp) (.slice (some ⟨gn5, 0, none⟩) (NV + 1) cn5)
              have hV := hV.far h5 (by decide) kp
              have hK0 := hK0.trans (KT.one h5 (.inr (.inr (.inl rfl))) kp)
              have hB := hB.setCell (p := ⟨N5, 0, none⟩) hN5 (.slice (some ⟨gn5, 0, none⟩) (NV + 1) cn5)
              have h6 := h6.far (p := ⟨N5, 0, none⟩) hne (.slice (some ⟨gn5, 0, none⟩) (NV + 1) cn5)
              have h5 : Blk (We.setCell ⟨N5, 0, none⟩ (.slice (some ⟨gn5, 0, none⟩) (NV + 1) cn5)) N5 49 #[.slice (some ⟨gn5, 0, none⟩) (NV + 1) cn5] := h5.set_ 0 (.slice (some ⟨gn5, 0, none⟩) (NV + 1) cn5)
              clear kp
              generalize We.setCell ⟨N5, 0, none⟩ (.slice (some ⟨gn5, 0, none⟩) (NV + 1) cn5) = Wf at *
              have c6c := h6.cell 0
              have c6f := h6.frozen 0
              refine wpAnyL_ready (rs := [9]) (by kernel_rfl) (by simp) ?_
              refine AllReadyL.cons (o := { dst := none, op := Go.Op.store 50 (Go.Operand.tmp 7) (Go.Operand.tmp 66), type := 0, pos := "law.go:173", after := #[{ on := 7, ground := Go.Ground.data }, { on := 8, ground := Go.Ground.chain }, { on := 0, ground := Go.Ground.phase }, { on := 1, ground := Go.Ground.phase }, { on := 2, ground := Go.Ground.phase }, { on := 3, ground := Go.Ground.phase }, { on := 4, ground := Go.Ground.phase }, { on := 5, ground := Go.Ground.phase }, { on := 6, ground := Go.Ground.phase }, { on := 7, ground := Go.Ground.phase }, { on := 8, ground := Go.Ground.phase }], guard := none }) rfl (fun K' hK => ?_) AllReadyL.nil
              go_simp
              refine hK.out _ _ (late_no (by kernel_rfl)) ?_
              clear hK K' c6c c6f
              try simp only [Act.put, List.setIfInBounds_toArray, List.set_cons_zero, List.set_cons_succ]
              have kp := (Keep.refl [N6] Wf).setCell (p := ⟨N6, 0, none⟩) (by simp) (.slice (some ⟨gn6, 0, none⟩) (NV + 1) cn6)
              have hV := hV.far h6 (by decide) kp
              have hK0 := hK0.trans (KT.one h6 (.inr (.inr (.inr rfl))) kp)
              have hB := hB.setCell (p := ⟨N6, 0, none⟩) hN6 (.slice (some ⟨gn6, 0, none⟩) (NV + 1) cn6)
              have h5 := h5.far (p := ⟨N6, 0, none⟩) hne.symm (.slice (some ⟨gn6, 0, none⟩) (NV + 1) cn6)
              have h6 : Blk (Wf.setCell ⟨N6, 0, none⟩ (.slice (some ⟨gn6, 0, none⟩) (NV + 1) cn6)) N6 50 #[.slice (some ⟨gn6, 0, none⟩) (NV + 1) cn6] := h6.set_ 0 (.slice (some ⟨gn6, 0, none⟩) (NV + 1) cn6)
              clear kp
              generalize Wf.setCell ⟨N6, 0, none⟩ (.slice (some ⟨gn6, 0, none⟩) (NV + 1) cn6) = Wg at *
              refine wpAnyL_done (by kernel_rfl) ?_ _
              clear hne
              clear HRK
              have hfin := HSN.out b1 (.slice A8 (dropK ps p.1).length c8) (dropK ps p.1) Wg gn5 cn5 gn6 cn6 hV
              clear hV
              go_wp2_with fail
              refine ⟨⟨j + 1, vs ++ [⟨b1, .slice A8 (dropK ps p.1).length c8, dropK ps p.1⟩], _, _, b1, dropK ps p.1, by omega, by omega, ?_, by go_num, rfl, hfin, h5, h6, ?_, ?_, ?_, ?_, ?_, ?_, hK0, hB⟩, by simp [intOf]; omega⟩
              · rw [List.length_append, hvl.out]; rfl
              · simp
              · simp
              · exact drop_rises _ _ hr
              · exact Nat.le_trans (List.length_filter_le _ _) (by omega)
              · exact fun x hx => hz1 x ((drop_mem _ _ _).1 hx).1
              · intro e he
                rcases List.mem_append.1 he with he | he
                · exact HPs.out e he
                · rw [List.mem_singleton] at he
                  subst he
                  exact ⟨drop_rises _ _ hr, Nat.le_trans (List.length_filter_le _ _) (by omega), fun x hx => hz1 x ((drop_mem _ _ _).1 hx).1⟩

            · go_simp
              have hBl := (Below.refl _ Wa).alloc (Nat.le_refl _) (.cells #[.slice A8 (dropK ps p.1).length c8] 32)
              have nb : Blk (Wa.alloc (.cells #[.slice A8 (dropK ps p.1).length c8] 32)) Wa.heap.size 32 #[.slice A8 (dropK ps p.1).length c8] := Blk.new Wa 32 #[.slice A8 (dropK ps p.1).length c8]
              have hV := hV.below hBl
              have h5 := h5.below hBl
              have h6 := h6.below hBl
              have hK0 := hK0.trans (KT.ofBelow hBl)
              have hB := hB.trans (hBl.mono hB.size)
              have na := na.below hBl
              refine hK.out _ _ (fun _ => ⟨h5.cell 0, h6.cell 0⟩) ?_
              clear hK K' hS hBl
              try simp only [Act.put, List.setIfInBounds_toArray, List.set_cons_zero, List.set_cons_succ]
              generalize Wa.alloc (.cells #[.slice A8 (dropK ps p.1).length c8] 32) = Wb at *
              generalize Wa.heap.size = Bb at *
              have hS : (fun w' : World => w'.cell? ⟨N5, 0, none⟩ = some (.slice A5 NV c5) ∧ w'.cell? ⟨N6, 0, none⟩ = some (.slice A6 NV c6)) Wb := ⟨h5.cell 0, h6.cell 0⟩
              refine wpAnyL_ready (rs := [3]) (by kernel_rfl) (by simp) ?_
              refine AllReadyL.cons (o := { dst := some 62, op := Go.Op.call { callee := Go.Callee.builtin Go.Builtin.append, args := #[Go.Operand.tmp 59, Go.Operand.tmp 61], argTypes := #[49, 49] }, type := 49, pos := "law.go:173", after := #[{ on := 0, ground := Go.Ground.data }, { on := 2, ground := Go.Ground.data }], guard := none }) rfl (fun K' hK => ?_) AllReadyL.nil
              refine step_append_lies _ (by rfl) _ _ _ (by rfl) w0.heap.size 30 i30 _ 1 8 Tryz.underlying49 hi30 hy300 hy301 hy302 zsz_ptr (by decide) (.slice A5 NV c5) NV (kcs bs) (by rfl) (by have := hV.r5; rw [HBL.out] at this; exact this) ⟨Ba, 0, none⟩ 1 1 [.pointer (some ⟨b1, 0, none⟩)] (by rfl) rfl (World.news_of_block na) (by simp [Value.oneCell']) (by omega) (by unfold maxLen; omega) (by omega) hV.hb _ rfl ?_
              intro gn5 cn5 Wc hown1 hgrow1 hat1 hlt1
              have hV2 := hV.grow5 (g := gn5) (cap := cn5) (b := b1) hgrow1 (by rw [HBL.out]; exact hown1) hat1
              have h52 := hV.far5 hgrow1 h5 (by decide)
              have h62 := hV.far5 hgrow1 h6 (by decide)
              have nb := hV.far5 hgrow1 nb (by decide)
              have hK2 := hK0.trans (KT.grown hV.r5 hgrow1 (.inl rfl))
              have hBn := hB.grown hgrow1 hB.size (own_ge hV.r5)
              rw [HBL.out] at hV2
              refine hK.out _ _ (fun _ => ⟨h52.cell 0, h62.cell 0⟩) ?_
              clear hK K' hS hgrow1 hat1 hlt1 hown1 na hV h5 h6 hB hK0
              try simp only [Act.put, List.setIfInBounds_toArray, List.set_cons_zero, List.set_cons_succ]
              have hV := hV2
              have h5 := h52
              have h6 := h62
              have hB := hBn
              have hK0 := hK2
              clear hV2 h52 h62 hBn hK2
              have hS : (fun w' : World => w'.cell? ⟨N5, 0, none⟩ = some (.slice A5 NV c5) ∧ w'.cell? ⟨N6, 0, none⟩ = some (.slice A6 NV c6)) Wc := ⟨h5.cell 0, h6.cell 0⟩
              refine wpAnyL_ready (rs := [7]) (by kernel_rfl) (by simp) ?_
              refine AllReadyL.cons (o := { dst := some 66, op := Go.Op.call { callee := Go.Callee.builtin Go.Builtin.append, args := #[Go.Operand.tmp 63, Go.Operand.tmp 65], argTypes := #[50, 50] }, type := 50, pos := "law.go:173", after := #[{ on := 4, ground := Go.Ground.data }, { on := 6, ground := Go.Ground.data }, { on := 3, ground := Go.Ground.chain }], guard := none }) rfl (fun K' hK => ?_) AllReadyL.nil
              refine step_append_lies _ (by rfl) _ _ _ (by rfl) w0.heap.size 32 i32 _ 1 24 Tryz.underlying50 hi32 hy320 hy321 hy322 zsz_sl (by decide) (.slice A6 NV c6) NV ls (by rfl) (by have := hV.r6; rw [HLL.out] at this; exact this) ⟨Bb, 0, none⟩ 1 1 [.slice A8 (dropK ps p.1).length c8] (by rfl) rfl (World.news_of_block nb) (by simp [Value.oneCell']) (by omega) (by unfold maxLen; omega) (by omega) hV.hb _ rfl ?_
              intro gn6 cn6 We hown1 hgrow1 hat1 hlt1
              have hV2 := hV.grow6 (g := gn6) (cap := cn6) (u := .slice A8 (dropK ps p.1).length c8) hgrow1 (by rw [HLL.out]; exact hown1)
              have h52 := hV.far6 hgrow1 h5 (by decide)
              have h62 := hV.far6 hgrow1 h6 (by decide)
              have hK2 := hK0.trans (KT.grown hV.r6 hgrow1 (.inr (.inl rfl)))
              have hBn := hB.grown hgrow1 hB.size (own_ge hV.r6)
              rw [HLL.out] at hV2
              refine hK.out _ _ (fun _ => ⟨h52.cell 0, h62.cell 0⟩) ?_
              clear hK K' hS hgrow1 hat1 hlt1 hown1 nb hV h5 h6 hB hK0
              try simp only [Act.put, List.setIfInBounds_toArray, List.set_cons_zero, List.set_cons_succ]
              have hV := hV2
              have h5 := h52
              have h6 := h62
              have hB := hBn
              have hK0 := hK2
              clear hV2 h52 h62 hBn hK2
              have hne := box_ne h5 h6
              have c5c := h5.cell 0
              have c5f := h5.frozen 0
              refine wpAnyL_ready (rs := [8]) (by kernel_rfl) (by simp) ?_
              refine AllReadyL.cons (o := { dst := none, op := Go.Op.store 49 (Go.Operand.tmp 6) (Go.Operand.tmp 62), type := 0, pos := "law.go:173", after := #[{ on := 3, ground := Go.Ground.data }, { on := 7, ground := Go.Ground.chain }, { on := 0, ground := Go.Ground.phase }, { on := 1, ground := Go.Ground.phase }, { on := 2, ground := Go.Ground.phase }, { on := 3, ground := Go.Ground.phase }, { on := 4, ground := Go.Ground.textOnly Go.Departure.inlinedCapture }, { on := 5, ground := Go.Ground.textOnly Go.Departure.lateStores }, { on := 6, ground := Go.Ground.textOnly Go.Departure.inlinedCapture }, { on := 7, ground := Go.Ground.textOnly Go.Departure.lateStoresUnsure }], guard := none }) rfl (fun K' hK => ?_) AllReadyL.nil
              go_simp
              refine hK.out _ _ (late_no (by kernel_rfl)) ?_
              clear hK K' c5c c5f
              try simp only [Act.put, List.setIfInBounds_toArray, List.set_cons_zero, List.set_cons_succ]
              have kp := (Keep.refl [N5] We).setCell (p := ⟨N5, 0, none⟩) (by simp) (.slice (some ⟨gn5, 0, none⟩) (NV + 1) cn5)
              have hV := hV.far h5 (by decide) kp
              have hK0 := hK0.trans (KT.one h5 (.inr (.inr (.inl rfl))) kp)
              have hB := hB.setCell (p := ⟨N5, 0, none⟩) hN5 (.slice (some ⟨gn5, 0, none⟩) (NV + 1) cn5)
              have h6 := h6.far (p := ⟨N5, 0, none⟩) hne (.slice (some ⟨gn5, 0, none⟩) (NV + 1) cn5)
              have h5 : Blk (We.setCell ⟨N5, 0, none⟩ (.slice (some ⟨gn5, 0, none⟩) (NV + 1) cn5)) N5 49 #[.slice (some ⟨gn5, 0, none⟩) (NV + 1) cn5] := h5.set_ 0 (.slice (some ⟨gn5, 0, none⟩) (NV + 1) cn5)
              clear kp
              generalize We.setCell ⟨N5, 0, none⟩ (.slice (some ⟨gn5, 0, none⟩) (NV + 1) cn5) = Wf at *
              have c6c := h6.cell 0
              have c6f := h6.frozen 0
              refine wpAnyL_ready (rs := [9]) (by kernel_rfl) (by simp) ?_
              refine AllReadyL.cons (o := { dst := none, op := Go.Op.store 50 (Go.Operand.tmp 7) (Go.Operand.tmp 66), type := 0, pos := "law.go:173", after := #[{ on := 7, ground := Go.Ground.data }, { on := 8, ground := Go.Ground.chain }, { on := 0, ground := Go.Ground.phase }, { on := 1, ground := Go.Ground.phase }, { on := 2, ground := Go.Ground.phase }, { on := 3, ground := Go.Ground.phase }, { on := 4, ground := Go.Ground.phase }, { on := 5, ground := Go.Ground.phase }, { on := 6, ground := Go.Ground.phase }, { on := 7, ground := Go.Ground.phase }, { on := 8, ground := Go.Ground.phase }], guard := none }) rfl (fun K' hK => ?_) AllReadyL.nil
              go_simp
              refine hK.out _ _ (late_no (by kernel_rfl)) ?_
              clear hK K' c6c c6f
              try simp only [Act.put, List.setIfInBounds_toArray, List.set_cons_zero, List.set_cons_succ]
              have kp := (Keep.refl [N6] Wf).setCell (p := ⟨N6, 0, none⟩) (by simp) (.slice (some ⟨gn6, 0, none⟩) (NV + 1) cn6)
              have hV := hV.far h6 (by decide) kp
              have hK0 := hK0.trans (KT.one h6 (.inr (.inr (.inr rfl))) kp)
              have hB := hB.setCell (p := ⟨N6, 0, none⟩) hN6 (.slice (some ⟨gn6, 0, none⟩) (NV + 1) cn6)
              have h5 := h5.far (p := ⟨N6, 0, none⟩) hne.symm (.slice (some ⟨gn6, 0, none⟩) (NV + 1) cn6)
              have h6 : Blk (Wf.setCell ⟨N6, 0, none⟩ (.slice (some ⟨gn6, 0, none⟩) (NV + 1) cn6)) N6 50 #[.slice (some ⟨gn6, 0, none⟩) (NV + 1) cn6] := h6.set_ 0 (.slice (some ⟨gn6, 0, none⟩) (NV + 1) cn6)
              clear kp
              generalize Wf.setCell ⟨N6, 0, none⟩ (.slice (some ⟨gn6, 0, none⟩) (NV + 1) cn6) = Wg at *
              refine wpAnyL_done (by kernel_rfl) ?_ _
              clear hne
              clear HRK
              have hfin := HSN.out b1 (.slice A8 (dropK ps p.1).length c8) (dropK ps p.1) Wg gn5 cn5 gn6 cn6 hV
              clear hV
              go_wp2_with fail
              refine ⟨⟨j + 1, vs ++ [⟨b1, .slice A8 (dropK ps p.1).length c8, dropK ps p.1⟩], _, _, b1, dropK ps p.1, by omega, by omega, ?_, by go_num, rfl, hfin, h5, h6, ?_, ?_, ?_, ?_, ?_, ?_, hK0, hB⟩, by simp [intOf]; omega⟩
              · rw [List.length_append, hvl.out]; rfl
              · simp
              · simp
              · exact drop_rises _ _ hr
              · exact Nat.le_trans (List.length_filter_le _ _) (by omega)
              · exact fun x hx => hz1 x ((drop_mem _ _ _).1 hx).1
              · intro e he
                rcases List.mem_append.1 he with he | he
                · exact HPs.out e he
                · rw [List.mem_singleton] at he
                  subst he
                  exact ⟨drop_rises _ _ hr, Nat.le_trans (List.length_filter_le _ _) (by omega), fun x hx => hz1 x ((drop_mem _ _ _).1 hx).1⟩


          · go_simp
            have hBl := (Below.refl _ Wd).alloc (Nat.le_refl _) (.cells #[.slice A8 (dropK ps p.1).length c8] 32)
            have nb : Blk (Wd.alloc (.cells #[.slice A8 (dropK ps p.1).length c8] 32)) Wd.heap.size 32 #[.slice A8 (dropK ps p.1).length c8] := Blk.new Wd 32 #[.slice A8 (dropK ps p.1).length c8]
            have hV := hV.below hBl
            have h5 := h5.below hBl
            have h6 := h6.below hBl
            have hK0 := hK0.trans (KT.ofBelow hBl)
            have hB := hB.trans (hBl.mono hB.size)
            skip
            refine hK.out _ _ (fun _ => ⟨h5.cell 0, h6.cell 0⟩) ?_
            clear hK K' hS hBl
            try simp only [Act.put, List.setIfInBounds_toArray, List.set_cons_zero, List.set_cons_succ]
            generalize Wd.alloc (.cells #[.slice A8 (dropK ps p.1).length c8] 32) = Wa at *
            generalize Wd.heap.size = Bb at *
            have hS : (fun w' : World => w'.cell? ⟨N5, 0, none⟩ = some (.slice A5 NV c5) ∧ w'.cell? ⟨N6, 0, none⟩ = some (.slice A6 NV c6)) Wa := ⟨h5.cell 0, h6.cell 0⟩
            refine wpAnyL_ready (rs := [2]) (by kernel_rfl) (by simp) ?_
            refine AllReadyL.cons (o := { dst := some 61, op := Go.Op.buildSlice 49 1 #[(0, Go.Operand.tmp 60)], type := 49, pos := "law.go:173", after := #[{ on := 1, ground := Go.Ground.data }], guard := none }) rfl (fun K' hK => ?_) AllReadyL.nil
            go_simp
            have hBl := (Below.refl _ Wa).alloc (Nat.le_refl _) (.cells #[.pointer (some ⟨b1, 0, none⟩)] 30)
            have na : Blk (Wa.alloc (.cells #[.pointer (some ⟨b1, 0, none⟩)] 30)) Wa.heap.size 30 #[.pointer (some ⟨b1, 0, none⟩)] := Blk.new Wa 30 #[.pointer (some ⟨b1, 0, none⟩)]
            have hV := hV.below hBl
            have h5 := h5.below hBl
            have h6 := h6.below hBl
            have hK0 := hK0.trans (KT.ofBelow hBl)
            have hB := hB.trans (hBl.mono hB.size)
            have nb := nb.below hBl
            refine hK.out _ _ (fun _ => ⟨h5.cell 0, h6.cell 0⟩) ?_
            clear hK K' hS hBl
            try simp only [Act.put, List.setIfInBounds_toArray, List.set_cons_zero, List.set_cons_succ]
            generalize Wa.alloc (.cells #[.pointer (some ⟨b1, 0, none⟩)] 30) = Wb at *
            generalize Wa.heap.size = Ba at *
            have hS : (fun w' : World => w'.cell? ⟨N5, 0, none⟩ = some (.slice A5 NV c5) ∧ w'.cell? ⟨N6, 0, none⟩ = some (.slice A6 NV c6)) Wb := ⟨h5.cell 0, h6.cell 0⟩
            refine wpAnyL_ready (rs := [3]) (by kernel_rfl) (by simp) ?_
            refine AllReadyL.cons (o := { dst := some 62, op := Go.Op.call { callee := Go.Callee.builtin Go.Builtin.append, args := #[Go.Operand.tmp 59, Go.Operand.tmp 61], argTypes := #[49, 49] }, type := 49, pos := "law.go:173", after := #[{ on := 0, ground := Go.Ground.data }, { on := 2, ground := Go.Ground.data }], guard := none }) rfl (fun K' hK => ?_) AllReadyL.nil
            refine step_append_lies _ (by rfl) _ _ _ (by rfl) w0.heap.size 30 i30 _ 1 8 Tryz.underlying49 hi30 hy300 hy301 hy302 zsz_ptr (by decide) (.slice A5 NV c5) NV (kcs bs) (by rfl) (by have := hV.r5; rw [HBL.out] at this; exact this) ⟨Ba, 0, none⟩ 1 1 [.pointer (some ⟨b1, 0, none⟩)] (by rfl) rfl (World.news_of_block na) (by simp [Value.oneCell']) (by omega) (by unfold maxLen; omega) (by omega) hV.hb _ rfl ?_
            intro gn5 cn5 Wc hown1 hgrow1 hat1 hlt1
            have hV2 := hV.grow5 (g := gn5) (cap := cn5) (b := b1) hgrow1 (by rw [HBL.out]; exact hown1) hat1
            have h52 := hV.far5 hgrow1 h5 (by decide)
            have h62 := hV.far5 hgrow1 h6 (by decide)
            have nb := hV.far5 hgrow1 nb (by decide)
            have hK2 := hK0.trans (KT.grown hV.r5 hgrow1 (.inl rfl))
            have hBn := hB.grown hgrow1 hB.size (own_ge hV.r5)
            rw [HBL.out] at hV2
            refine hK.out _ _ (fun _ => ⟨h52.cell 0, h62.cell 0⟩) ?_
            clear hK K' hS hgrow1 hat1 hlt1 hown1 na hV h5 h6 hB hK0
            try simp only [Act.put, List.setIfInBounds_toArray, List.set_cons_zero, List.set_cons_succ]
            have hV := hV2
            have h5 := h52
            have h6 := h62
            have hB := hBn
            have hK0 := hK2
            clear hV2 h52 h62 hBn hK2
            have hS : (fun w' : World => w'.cell? ⟨N5, 0, none⟩ = some (.slice A5 NV c5) ∧ w'.cell? ⟨N6, 0, none⟩ = some (.slice A6 NV c6)) Wc := ⟨h5.cell 0, h6.cell 0⟩
            refine wpAnyL_ready (rs := [7]) (by kernel_rfl) (by simp) ?_
            refine AllReadyL.cons (o := { dst := some 66, op := Go.Op.call { callee := Go.Callee.builtin Go.Builtin.append, args := #[Go.Operand.tmp 63, Go.Operand.tmp 65], argTypes := #[50, 50] }, type := 50, pos := "law.go:173", after := #[{ on := 4, ground := Go.Ground.data }, { on := 6, ground := Go.Ground.data }, { on := 3, ground := Go.Ground.chain }], guard := none }) rfl (fun K' hK => ?_) AllReadyL.nil
            refine step_append_lies _ (by rfl) _ _ _ (by rfl) w0.heap.size 32 i32 _ 1 24 Tryz.underlying50 hi32 hy320 hy321 hy322 zsz_sl (by decide) (.slice A6 NV c6) NV ls (by rfl) (by have := hV.r6; rw [HLL.out] at this; exact this) ⟨Bb, 0, none⟩ 1 1 [.slice A8 (dropK ps p.1).length c8] (by rfl) rfl (World.news_of_block nb) (by simp [Value.oneCell']) (by omega) (by unfold maxLen; omega) (by omega) hV.hb _ rfl ?_
            intro gn6 cn6 We hown1 hgrow1 hat1 hlt1
            have hV2 := hV.grow6 (g := gn6) (cap := cn6) (u := .slice A8 (dropK ps p.1).length c8) hgrow1 (by rw [HLL.out]; exact hown1)
            have h52 := hV.far6 hgrow1 h5 (by decide)
            have h62 := hV.far6 hgrow1 h6 (by decide)
            have hK2 := hK0.trans (KT.grown hV.r6 hgrow1 (.inr (.inl rfl)))
            have hBn := hB.grown hgrow1 hB.size (own_ge hV.r6)
            rw [HLL.out] at hV2
            refine hK.out _ _ (fun _ => ⟨h52.cell 0, h62.cell 0⟩) ?_
            clear hK K' hS hgrow1 hat1 hlt1 hown1 nb hV h5 h6 hB hK0
            try simp only [Act.put, List.setIfInBounds_toArray, List.set_cons_zero, List.set_cons_succ]
            have hV := hV2
            have h5 := h52
            have h6 := h62
            have hB := hBn
            have hK0 := hK2
            clear hV2 h52 h62 hBn hK2
            have hne := box_ne h5 h6
            have c5c := h5.cell 0
            have c5f := h5.frozen 0
            refine wpAnyL_ready (rs := [8]) (by kernel_rfl) (by simp) ?_
            refine AllReadyL.cons (o := { dst := none, op := Go.Op.store 49 (Go.Operand.tmp 6) (Go.Operand.tmp 62), type := 0, pos := "law.go:173", after := #[{ on := 3, ground := Go.Ground.data }, { on := 7, ground := Go.Ground.chain }, { on := 0, ground := Go.Ground.phase }, { on := 1, ground := Go.Ground.phase }, { on := 2, ground := Go.Ground.phase }, { on := 3, ground := Go.Ground.phase }, { on := 4, ground := Go.Ground.textOnly Go.Departure.inlinedCapture }, { on := 5, ground := Go.Ground.textOnly Go.Departure.lateStores }, { on := 6, ground := Go.Ground.textOnly Go.Departure.inlinedCapture }, { on := 7, ground := Go.Ground.textOnly Go.Departure.lateStoresUnsure }], guard := none }) rfl (fun K' hK => ?_) AllReadyL.nil
            go_simp
            refine hK.out _ _ (late_no (by kernel_rfl)) ?_
            clear hK K' c5c c5f
            try simp only [Act.put, List.setIfInBounds_toArray, List.set_cons_zero, List.set_cons_succ]
            have kp := (Keep.refl [N5] We).setCell (p := ⟨N5, 0, none⟩) (by simp) (.slice (some ⟨gn5, 0, none⟩) (NV + 1) cn5)
            have hV := hV.far h5 (by decide) kp
            have hK0 := hK0.trans (KT.one h5 (.inr (.inr (.inl rfl))) kp)
            have hB := hB.setCell (p := ⟨N5, 0, none⟩) hN5 (.slice (some ⟨gn5, 0, none⟩) (NV + 1) cn5)
            have h6 := h6.far (p := ⟨N5, 0, none⟩) hne (.slice (some ⟨gn5, 0, none⟩) (NV + 1) cn5)
            have h5 : Blk (We.setCell ⟨N5, 0, none⟩ (.slice (some ⟨gn5, 0, none⟩) (NV + 1) cn5)) N5 49 #[.slice (some ⟨gn5, 0, none⟩) (NV + 1) cn5] := h5.set_ 0 (.slice (some ⟨gn5, 0, none⟩) (NV + 1) cn5)
            clear kp
            generalize We.setCell ⟨N5, 0, none⟩ (.slice (some ⟨gn5, 0, none⟩) (NV + 1) cn5) = Wf at *
            have c6c := h6.cell 0
            have c6f := h6.frozen 0
            refine wpAnyL_ready (rs := [9]) (by kernel_rfl) (by simp) ?_
            refine AllReadyL.cons (o := { dst := none, op := Go.Op.store 50 (Go.Operand.tmp 7) (Go.Operand.tmp 66), type := 0, pos := "law.go:173", after := #[{ on := 7, ground := Go.Ground.data }, { on := 8, ground := Go.Ground.chain }, { on := 0, ground := Go.Ground.phase }, { on := 1, ground := Go.Ground.phase }, { on := 2, ground := Go.Ground.phase }, { on := 3, ground := Go.Ground.phase }, { on := 4, ground := Go.Ground.phase }, { on := 5, ground := Go.Ground.phase }, { on := 6, ground := Go.Ground.phase }, { on := 7, ground := Go.Ground.phase }, { on := 8, ground := Go.Ground.phase }], guard := none }) rfl (fun K' hK => ?_) AllReadyL.nil
            go_simp
            refine hK.out _ _ (late_no (by kernel_rfl)) ?_
            clear hK K' c6c c6f
            try simp only [Act.put, List.setIfInBounds_toArray, List.set_cons_zero, List.set_cons_succ]
            have kp := (Keep.refl [N6] Wf).setCell (p := ⟨N6, 0, none⟩) (by simp) (.slice (some ⟨gn6, 0, none⟩) (NV + 1) cn6)
            have hV := hV.far h6 (by decide) kp
            have hK0 := hK0.trans (KT.one h6 (.inr (.inr (.inr rfl))) kp)
            have hB := hB.setCell (p := ⟨N6, 0, none⟩) hN6 (.slice (some ⟨gn6, 0, none⟩) (NV + 1) cn6)
            have h5 := h5.far (p := ⟨N6, 0, none⟩) hne.symm (.slice (some ⟨gn6, 0, none⟩) (NV + 1) cn6)
            have h6 : Blk (Wf.setCell ⟨N6, 0, none⟩ (.slice (some ⟨gn6, 0, none⟩) (NV + 1) cn6)) N6 50 #[.slice (some ⟨gn6, 0, none⟩) (NV + 1) cn6] := h6.set_ 0 (.slice (some ⟨gn6, 0, none⟩) (NV + 1) cn6)
            clear kp
            generalize Wf.setCell ⟨N6, 0, none⟩ (.slice (some ⟨gn6, 0, none⟩) (NV + 1) cn6) = Wg at *
            refine wpAnyL_done (by kernel_rfl) ?_ _
            clear hne
            clear HRK
            have hfin := HSN.out b1 (.slice A8 (dropK ps p.1).length c8) (dropK ps p.1) Wg gn5 cn5 gn6 cn6 hV
            clear hV
            go_wp2_with fail
            refine ⟨⟨j + 1, vs ++ [⟨b1, .slice A8 (dropK ps p.1).length c8, dropK ps p.1⟩], _, _, b1, dropK ps p.1, by omega, by omega, ?_, by go_num, rfl, hfin, h5, h6, ?_, ?_, ?_, ?_, ?_, ?_, hK0, hB⟩, by simp [intOf]; omega⟩
            · rw [List.length_append, hvl.out]; rfl
            · simp
            · simp
            · exact drop_rises _ _ hr
            · exact Nat.le_trans (List.length_filter_le _ _) (by omega)
            · exact fun x hx => hz1 x ((drop_mem _ _ _).1 hx).1
            · intro e he
              rcases List.mem_append.1 he with he | he
              · exact HPs.out e he
              · rw [List.mem_singleton] at he
                subst he
                exact ⟨drop_rises _ _ hr, Nat.le_trans (List.length_filter_le _ _) (by omega), fun x hx => hz1 x ((drop_mem _ _ _).1 hx).1⟩


        · have D3 := (dmod hdd).2 h3
          have s0 : W4.cell? ⟨N4, 0, none⟩ = some (.int .u64 k0) := hH.cell 0
          have s1 : W4.cell? ⟨N4, 1, none⟩ = some (.int .u64 k1) := hH.cell 1
          have s2 : W4.cell? ⟨N4, 2, none⟩ = some (.int .u64 m) := hH.cell 2
          have p0 : W4.cell? ⟨N17, 0, none⟩ = some (.string p.1) := hP.cell 0
          have p1 : W4.cell? ⟨N17, 1, none⟩ = some (.string p.2) := hP.cell 1
          go_wp2_with fail
          refine kp.mono ?_
          rintro e w5 ⟨b1, gb, rfl, hT1, hB5⟩
          clear kp kd s0 s1 s2 p0 p1
          have hB := hB.trans (hB5.mono hB.size)
          have hK0 := hK0.trans (KT.ofBelow hB5)
          have hV := hV.below hB5
          have h5 := h5.below hB5
          have h6 := h6.below hB5
          have hH := hH.below hB5
          have hv := hv.below hB5
          have hP := hP.below hB5
          have hV := hV.addT hT1
          clear hT1 hB5
          have p0 : w5.cell? ⟨N17, 0, none⟩ = some (.string p.1) := hP.cell 0
          have p1 : w5.cell? ⟨N17, 1, none⟩ = some (.string p.2) := hP.cell 1
          have kc := refPut_any A c ps p _ (HRK.out _ hV) (by omega) (sized_mem fun x hx => Nat.le_trans (hz1 x hx) (by unfold maxLen; omega)) (by unfold maxLen; omega)
          unfold Pr.v at kc
          go_wp2_with fail
          refine kc.mono ?_
          rintro e w6 ⟨v8, rfl, hO8, hB6⟩
          clear kc p0 p1
          have hO8 := OwnR.base hO8 hV.hb
          have hB := hB.trans (hB6.mono hB.size)
          have hK0 := hK0.trans (KT.ofBelow hB6)
          have hV := hV.below hB6
          have h5 := h5.below hB6
          have h6 := h6.below hB6
          have hH := hH.below hB6
          have hv := hv.below hB6
          have hV := hV.addL hO8
          obtain ⟨A8, c8, rfl, -⟩ := hO8.rd
          obtain ⟨W, hW⟩ : ∃ W, W = w6 := ⟨_, rfl⟩
          subst hW
          clear hO8 hB6 hP d0
          go_upto_region 12 with (fail)
          refine wp_region_late (S := fun w' => w'.cell? ⟨N5, 0, none⟩ = some (.slice A5 NV c5) ∧ w'.cell? ⟨N6, 0, none⟩ = some (.slice A6 NV c6)) (st := 8) (by kernel_rfl) ?_
          have hS : (fun w' : World => w'.cell? ⟨N5, 0, none⟩ = some (.slice A5 NV c5) ∧ w'.cell? ⟨N6, 0, none⟩ = some (.slice A6 NV c6)) W.drew := ⟨h5.cell 0, h6.cell 0⟩
          have hdr2 : Below W.heap.size W W.drew := (Below.refl _ W).drew
          have hV := hV.below hdr2
          have h5 := h5.below hdr2
          have h6 := h6.below hdr2
          have hK0 := hK0.trans (KT.ofBelow hdr2)
          have hB := hB.drew
          clear hdr2
          generalize W.drew = Wd at *
          refine wpAnyL_take (i := 0) (oi := { dst := some 59, op := Go.Op.load 49 (Go.Operand.tmp 6), type := 49, pos := "law.go:173", after := #[], guard := none }) (v := .slice A5 NV c5) rfl (by kernel_rfl) (by kernel_rfl) (by kernel_rfl) (by kernel_rfl) (fun _ _ _ h => h) hS (Or.inl ⟨by rfl, fun w hSw => ?_⟩) ?_
          · go_split_ands
            go_simp
          try simp only [Act.put, List.setIfInBounds_toArray, List.set_cons_zero, List.set_cons_succ]
          refine wpAnyL_take0 (i := 1) (oi := { dst := some 60, op := Go.Op.move (Go.Operand.tmp 2), type := 30, pos := "law.go:173", after := #[], guard := none }) (v := .pointer (some ⟨b1, 0, none⟩)) rfl (by kernel_rfl) (by kernel_rfl) (by kernel_rfl) (by kernel_rfl) (fun _ _ _ h => h) hS (Or.inl ⟨by rfl, fun w hSw => ?_⟩) ?_
          · go_split_ands
            go_simp
          try simp only [Act.put, List.setIfInBounds_toArray, List.set_cons_zero, List.set_cons_succ]
          refine wpAnyL_take2 (i := 4) (oi := { dst := some 63, op := Go.Op.load 50 (Go.Operand.tmp 7), type := 50, pos := "law.go:173", after := #[], guard := none }) (v := .slice A6 NV c6) 7 rfl (by kernel_rfl) (by kernel_rfl) (by kernel_rfl) (by kernel_rfl) (fun _ _ _ h => h) hS (Or.inl ⟨by rfl, fun w hSw => ?_⟩) ?_
          · go_split_ands
            go_simp
          try simp only [Act.put, List.setIfInBounds_toArray, List.set_cons_zero, List.set_cons_succ]
          refine wpAnyL_take0 (i := 5) (oi := { dst := some 64, op := Go.Op.move (Go.Operand.tmp 3), type := 32, pos := "law.go:173", after := #[], guard := none }) (v := .slice A8 (putK ps p).length c8) rfl (by kernel_rfl) (by kernel_rfl) (by kernel_rfl) (by kernel_rfl) (fun _ _ _ h => h) hS (Or.inl ⟨by rfl, fun w hSw => ?_⟩) ?_
          · go_split_ands
            go_simp
          try simp only [Act.put, List.setIfInBounds_toArray, List.set_cons_zero, List.set_cons_succ]
          refine wpAnyL_ready (rs := [2, 6]) (by kernel_rfl) (by simp) ?_
          refine AllReadyL.cons (o := { dst := some 61, op := Go.Op.buildSlice 49 1 #[(0, Go.Operand.tmp 60)], type := 49, pos := "law.go:173", after := #[{ on := 1, ground := Go.Ground.data }], guard := none }) rfl (fun K' hK => ?_) (AllReadyL.cons (o := { dst := some 65, op := Go.Op.buildSlice 50 1 #[(0, Go.Operand.tmp 64)], type := 50, pos := "law.go:173", after := #[{ on := 5, ground := Go.Ground.data }], guard := none }) rfl (fun K' hK => ?_) AllReadyL.nil)
          · go_simp
            have hBl := (Below.refl _ Wd).alloc (Nat.le_refl _) (.cells #[.pointer (some ⟨b1, 0, none⟩)] 30)
            have na : Blk (Wd.alloc (.cells #[.pointer (some ⟨b1, 0, none⟩)] 30)) Wd.heap.size 30 #[.pointer (some ⟨b1, 0, none⟩)] := Blk.new Wd 30 #[.pointer (some ⟨b1, 0, none⟩)]
            have hV := hV.below hBl
            have h5 := h5.below hBl
            have h6 := h6.below hBl
            have hK0 := hK0.trans (KT.ofBelow hBl)
            have hB := hB.trans (hBl.mono hB.size)
            skip
            refine hK.out _ _ (fun _ => ⟨h5.cell 0, h6.cell 0⟩) ?_
            clear hK K' hS hBl
            try simp only [Act.put, List.setIfInBounds_toArray, List.set_cons_zero, List.set_cons_succ]
            generalize Wd.alloc (.cells #[.pointer (some ⟨b1, 0, none⟩)] 30) = Wa at *
            generalize Wd.heap.size = Ba at *
            have hS : (fun w' : World => w'.cell? ⟨N5, 0, none⟩ = some (.slice A5 NV c5) ∧ w'.cell? ⟨N6, 0, none⟩ = some (.slice A6 NV c6)) Wa := ⟨h5.cell 0, h6.cell 0⟩
            refine wpAnyL_ready (rs := [3, 6]) (by kernel_rfl) (by simp) ?_
            refine AllReadyL.cons (o := { dst := some 62, op := Go.Op.call { callee := Go.Callee.builtin Go.Builtin.append, args := #[Go.Operand.tmp 59, Go.Operand.tmp 61], argTypes := #[49, 49] }, type := 49, pos := "law.go:173", after := #[{ on := 0, ground := Go.Ground.data }, { on := 2, ground := Go.Ground.data }], guard := none }) rfl (fun K' hK => ?_) (AllReadyL.cons (o := { dst := some 65, op := Go.Op.buildSlice 50 1 #[(0, Go.Operand.tmp 64)], type := 50, pos := "law.go:173", after := #[{ on := 5, ground := Go.Ground.data }], guard := none }) rfl (fun K' hK => ?_) AllReadyL.nil)
            · refine step_append_lies _ (by rfl) _ _ _ (by rfl) w0.heap.size 30 i30 _ 1 8 Tryz.underlying49 hi30 hy300 hy301 hy302 zsz_ptr (by decide) (.slice A5 NV c5) NV (kcs bs) (by rfl) (by have := hV.r5; rw [HBL.out] at this; exact this) ⟨Ba, 0, none⟩ 1 1 [.pointer (some ⟨b1, 0, none⟩)] (by rfl) rfl (World.news_of_block na) (by simp [Value.oneCell']) (by omega) (by unfold maxLen; omega) (by omega) hV.hb _ rfl ?_
              intro gn5 cn5 Wb hown1 hgrow1 hat1 hlt1
              have hV2 := hV.grow5 (g := gn5) (cap := cn5) (b := b1) hgrow1 (by rw [HBL.out]; exact hown1) hat1
              have h52 := hV.far5 hgrow1 h5 (by decide)
              have h62 := hV.far5 hgrow1 h6 (by decide)
              skip
              have hK2 := hK0.trans (KT.grown hV.r5 hgrow1 (.inl rfl))
              have hBn := hB.grown hgrow1 hB.size (own_ge hV.r5)
              rw [HBL.out] at hV2
              refine hK.out _ _ (fun _ => ⟨h52.cell 0, h62.cell 0⟩) ?_
              clear hK K' hS hgrow1 hat1 hlt1 hown1 na hV h5 h6 hB hK0
              try simp only [Act.put, List.setIfInBounds_toArray, List.set_cons_zero, List.set_cons_succ]
              have hV := hV2
              have h5 := h52
              have h6 := h62
              have hB := hBn
              have hK0 := hK2
              clear hV2 h52 h62 hBn hK2
              have hS : (fun w' : World => w'.cell? ⟨N5, 0, none⟩ = some (.slice A5 NV c5) ∧ w'.cell? ⟨N6, 0, none⟩ = some (.slice A6 NV c6)) Wb := ⟨h5.cell 0, h6.cell 0⟩
              refine wpAnyL_ready (rs := [6]) (by kernel_rfl) (by simp) ?_
              refine AllReadyL.cons (o := { dst := some 65, op := Go.Op.buildSlice 50 1 #[(0, Go.Operand.tmp 64)], type := 50, pos := "law.go:173", after := #[{ on := 5, ground := Go.Ground.data }], guard := none }) rfl (fun K' hK => ?_) AllReadyL.nil
              go_simp
              have hBl := (Below.refl _ Wb).alloc (Nat.le_refl _) (.cells #[.slice A8 (putK ps p).length c8] 32)
              have nb : Blk (Wb.alloc (.cells #[.slice A8 (putK ps p).length c8] 32)) Wb.heap.size 32 #[.slice A8 (putK ps p).length c8] := Blk.new Wb 32 #[.slice A8 (putK ps p).length c8]
              have hV := hV.below hBl
              have h5 := h5.below hBl
              have h6 := h6.below hBl
              have hK0 := hK0.trans (KT.ofBelow hBl)
              have hB := hB.trans (hBl.mono hB.size)
              skip
              refine hK.out _ _ (fun _ => ⟨h5.cell 0, h6.cell 0⟩) ?_
              clear hK K' hS hBl
              try simp only [Act.put, List.setIfInBounds_toArray, List.set_cons_zero, List.set_cons_succ]
              generalize Wb.alloc (.cells #[.slice A8 (putK ps p).length c8] 32) = Wc at *
              generalize Wb.heap.size = Bb at *
              have hS : (fun w' : World => w'.cell? ⟨N5, 0, none⟩ = some (.slice A5 NV c5) ∧ w'.cell? ⟨N6, 0, none⟩ = some (.slice A6 NV c6)) Wc := ⟨h5.cell 0, h6.cell 0⟩
              refine wpAnyL_ready (rs := [7]) (by kernel_rfl) (by simp) ?_
              refine AllReadyL.cons (o := { dst := some 66, op := Go.Op.call { callee := Go.Callee.builtin Go.Builtin.append, args := #[Go.Operand.tmp 63, Go.Operand.tmp 65], argTypes := #[50, 50] }, type := 50, pos := "law.go:173", after := #[{ on := 4, ground := Go.Ground.data }, { on := 6, ground := Go.Ground.data }, { on := 3, ground := Go.Ground.chain }], guard := none }) rfl (fun K' hK => ?_) AllReadyL.nil
              refine step_append_lies _ (by rfl) _ _ _ (by rfl) w0.heap.size 32 i32 _ 1 24 Tryz.underlying50 hi32 hy320 hy321 hy322 zsz_sl (by decide) (.slice A6 NV c6) NV ls (by rfl) (by have := hV.r6; rw [HLL.out] at this; exact this) ⟨Bb, 0, none⟩ 1 1 [.slice A8 (putK ps p).length c8] (by rfl) rfl (World.news_of_block nb) (by simp [Value.oneCell']) (by omega) (by unfold maxLen; omega) (by omega) hV.hb _ rfl ?_
              intro gn6 cn6 We hown1 hgrow1 hat1 hlt1
              have hV2 := hV.grow6 (g := gn6) (cap := cn6) (u := .slice A8 (putK ps p).length c8) hgrow1 (by rw [HLL.out]; exact hown1)
              have h52 := hV.far6 hgrow1 h5 (by decide)
              have h62 := hV.far6 hgrow1 h6 (by decide)
              have hK2 := hK0.trans (KT.grown hV.r6 hgrow1 (.inr (.inl rfl)))
              have hBn := hB.grown hgrow1 hB.size (own_ge hV.r6)
              rw [HLL.out] at hV2
              refine hK.out _ _ (fun _ => ⟨h52.cell 0, h62.cell 0⟩) ?_
              clear hK K' hS hgrow1 hat1 hlt1 hown1 nb hV h5 h6 hB hK0
              try simp only [Act.put, List.setIfInBounds_toArray, List.set_cons_zero, List.set_cons_succ]
              have hV := hV2
              have h5 := h52
              have h6 := h62
              have hB := hBn
              have hK0 := hK2
              clear hV2 h52 h62 hBn hK2
              have hne := box_ne h5 h6
              have c5c := h5.cell 0
              have c5f := h5.frozen 0
              refine wpAnyL_ready (rs := [8]) (by kernel_rfl) (by simp) ?_
              refine AllReadyL.cons (o := { dst := none, op := Go.Op.store 49 (Go.Operand.tmp 6) (Go.Operand.tmp 62), type := 0, pos := "law.go:173", after := #[{ on := 3, ground := Go.Ground.data }, { on := 7, ground := Go.Ground.chain }, { on := 0, ground := Go.Ground.phase }, { on := 1, ground := Go.Ground.phase }, { on := 2, ground := Go.Ground.phase }, { on := 3, ground := Go.Ground.phase }, { on := 4, ground := Go.Ground.textOnly Go.Departure.inlinedCapture }, { on := 5, ground := Go.Ground.textOnly Go.Departure.lateStores }, { on := 6, ground := Go.Ground.textOnly Go.Departure.inlinedCapture }, { on := 7, ground := Go.Ground.textOnly Go.Departure.lateStoresUnsure }], guard := none }) rfl (fun K' hK => ?_) AllReadyL.nil
              go_simp
              refine hK.out _ _ (late_no (by kernel_rfl)) ?_
              clear hK K' c5c c5f
              try simp only [Act.put, List.setIfInBounds_toArray, List.set_cons_zero, List.set_cons_succ]
              have kp := (Keep.refl [N5] We).setCell (p := ⟨N5, 0, none⟩) (by simp) (.slice (some ⟨gn5, 0, none⟩) (NV + 1) cn5)
              have hV := hV.far h5 (by decide) kp
              have hK0 := hK0.trans (KT.one h5 (.inr (.inr (.inl rfl))) kp)
              have hB := hB.setCell (p := ⟨N5, 0, none⟩) hN5 (.slice (some ⟨gn5, 0, none⟩) (NV + 1) cn5)
              have h6 := h6.far (p := ⟨N5, 0, none⟩) hne (.slice (some ⟨gn5, 0, none⟩) (NV + 1) cn5)
              have h5 : Blk (We.setCell ⟨N5, 0, none⟩ (.slice (some ⟨gn5, 0, none⟩) (NV + 1) cn5)) N5 49 #[.slice (some ⟨gn5, 0, none⟩) (NV + 1) cn5] := h5.set_ 0 (.slice (some ⟨gn5, 0, none⟩) (NV + 1) cn5)
              clear kp
              generalize We.setCell ⟨N5, 0, none⟩ (.slice (some ⟨gn5, 0, none⟩) (NV + 1) cn5) = Wf at *
              have c6c := h6.cell 0
              have c6f := h6.frozen 0
              refine wpAnyL_ready (rs := [9]) (by kernel_rfl) (by simp) ?_
              refine AllReadyL.cons (o := { dst := none, op := Go.Op.store 50 (Go.Operand.tmp 7) (Go.Operand.tmp 66), type := 0, pos := "law.go:173", after := #[{ on := 7, ground := Go.Ground.data }, { on := 8, ground := Go.Ground.chain }, { on := 0, ground := Go.Ground.phase }, { on := 1, ground := Go.Ground.phase }, { on := 2, ground := Go.Ground.phase }, { on := 3, ground := Go.Ground.phase }, { on := 4, ground := Go.Ground.phase }, { on := 5, ground := Go.Ground.phase }, { on := 6, ground := Go.Ground.phase }, { on := 7, ground := Go.Ground.phase }, { on := 8, ground := Go.Ground.phase }], guard := none }) rfl (fun K' hK => ?_) AllReadyL.nil
              go_simp
              refine hK.out _ _ (late_no (by kernel_rfl)) ?_
              clear hK K' c6c c6f
              try simp only [Act.put, List.setIfInBounds_toArray, List.set_cons_zero, List.set_cons_succ]
              have kp := (Keep.refl [N6] Wf).setCell (p := ⟨N6, 0, none⟩) (by simp) (.slice (some ⟨gn6, 0, none⟩) (NV + 1) cn6)
              have hV := hV.far h6 (by decide) kp
              have hK0 := hK0.trans (KT.one h6 (.inr (.inr (.inr rfl))) kp)
              have hB := hB.setCell (p := ⟨N6, 0, none⟩) hN6 (.slice (some ⟨gn6, 0, none⟩) (NV + 1) cn6)
              have h5 := h5.far (p := ⟨N6, 0, none⟩) hne.symm (.slice (some ⟨gn6, 0, none⟩) (NV + 1) cn6)
              have h6 : Blk (Wf.setCell ⟨N6, 0, none⟩ (.slice (some ⟨gn6, 0, none⟩) (NV + 1) cn6)) N6 50 #[.slice (some ⟨gn6, 0, none⟩) (NV + 1) cn6] := h6.set_ 0 (.slice (some ⟨gn6, 0, none⟩) (NV + 1) cn6)
              clear kp
              generalize Wf.setCell ⟨N6, 0, none⟩ (.slice (some ⟨gn6, 0, none⟩) (NV + 1) cn6) = Wg at *
              refine wpAnyL_done (by kernel_rfl) ?_ _
              clear hne
              clear HRK
              have hfin := HSN.out b1 (.slice A8 (putK ps p).length c8) (putK ps p) Wg gn5 cn5 gn6 cn6 hV
              clear hV
              go_wp2_with fail
              refine ⟨⟨j + 1, vs ++ [⟨b1, .slice A8 (putK ps p).length c8, putK ps p⟩], _, _, b1, putK ps p, by omega, by omega, ?_, by go_num, rfl, hfin, h5, h6, ?_, ?_, ?_, ?_, ?_, ?_, hK0, hB⟩, by simp [intOf]; omega⟩
              · rw [List.length_append, hvl.out]; rfl
              · simp
              · simp
              · exact put_rises _ hr
              · have := put_len (ps := ps) p
                omega
              · intro x hx
                rcases put_sets.1 hx with rfl | ⟨h, _⟩
                · exact hp1
                · exact hz1 x h
              · intro e he
                rcases List.mem_append.1 he with he | he
                · exact HPs.out e he
                · rw [List.mem_singleton] at he
                  subst he
                  refine ⟨put_rises _ hr, Nat.le_trans (put_len p) (by omega), fun x hx => ?_⟩
                  rcases put_sets.1 hx with rfl | ⟨h, _⟩
                  · exact hp1
                  · exact hz1 x h

            · go_simp
              have hBl := (Below.refl _ Wa).alloc (Nat.le_refl _) (.cells #[.slice A8 (putK ps p).length c8] 32)
              have nb : Blk (Wa.alloc (.cells #[.slice A8 (putK ps p).length c8] 32)) Wa.heap.size 32 #[.slice A8 (putK ps p).length c8] := Blk.new Wa 32 #[.slice A8 (putK ps p).length c8]
              have hV := hV.below hBl
              have h5 := h5.below hBl
              have h6 := h6.below hBl
              have hK0 := hK0.trans (KT.ofBelow hBl)
              have hB := hB.trans (hBl.mono hB.size)
              have na := na.below hBl
              refine hK.out _ _ (fun _ => ⟨h5.cell 0, h6.cell 0⟩) ?_
              clear hK K' hS hBl
              try simp only [Act.put, List.setIfInBounds_toArray, List.set_cons_zero, List.set_cons_succ]
              generalize Wa.alloc (.cells #[.slice A8 (putK ps p).length c8] 32) = Wb at *
              generalize Wa.heap.size = Bb at *
              have hS : (fun w' : World => w'.cell? ⟨N5, 0, none⟩ = some (.slice A5 NV c5) ∧ w'.cell? ⟨N6, 0, none⟩ = some (.slice A6 NV c6)) Wb := ⟨h5.cell 0, h6.cell 0⟩
              refine wpAnyL_ready (rs := [3]) (by kernel_rfl) (by simp) ?_
              refine AllReadyL.cons (o := { dst := some 62, op := Go.Op.call { callee := Go.Callee.builtin Go.Builtin.append, args := #[Go.Operand.tmp 59, Go.Operand.tmp 61], argTypes := #[49, 49] }, type := 49, pos := "law.go:173", after := #[{ on := 0, ground := Go.Ground.data }, { on := 2, ground := Go.Ground.data }], guard := none }) rfl (fun K' hK => ?_) AllReadyL.nil
              refine step_append_lies _ (by rfl) _ _ _ (by rfl) w0.heap.size 30 i30 _ 1 8 Tryz.underlying49 hi30 hy300 hy301 hy302 zsz_ptr (by decide) (.slice A5 NV c5) NV (kcs bs) (by rfl) (by have := hV.r5; rw [HBL.out] at this; exact this) ⟨Ba, 0, none⟩ 1 1 [.pointer (some ⟨b1, 0, none⟩)] (by rfl) rfl (World.news_of_block na) (by simp [Value.oneCell']) (by omega) (by unfold maxLen; omega) (by omega) hV.hb _ rfl ?_
              intro gn5 cn5 Wc hown1 hgrow1 hat1 hlt1
              have hV2 := hV.grow5 (g := gn5) (cap := cn5) (b := b1) hgrow1 (by rw [HBL.out]; exact hown1) hat1
              have h52 := hV.far5 hgrow1 h5 (by decide)
              have h62 := hV.far5 hgrow1 h6 (by decide)
              have nb := hV.far5 hgrow1 nb (by decide)
              have hK2 := hK0.trans (KT.grown hV.r5 hgrow1 (.inl rfl))
              have hBn := hB.grown hgrow1 hB.size (own_ge hV.r5)
              rw [HBL.out] at hV2
              refine hK.out _ _ (fun _ => ⟨h52.cell 0, h62.cell 0⟩) ?_
              clear hK K' hS hgrow1 hat1 hlt1 hown1 na hV h5 h6 hB hK0
              try simp only [Act.put, List.setIfInBounds_toArray, List.set_cons_zero, List.set_cons_succ]
              have hV := hV2
              have h5 := h52
              have h6 := h62
              have hB := hBn
              have hK0 := hK2
              clear hV2 h52 h62 hBn hK2
              have hS : (fun w' : World => w'.cell? ⟨N5, 0, none⟩ = some (.slice A5 NV c5) ∧ w'.cell? ⟨N6, 0, none⟩ = some (.slice A6 NV c6)) Wc := ⟨h5.cell 0, h6.cell 0⟩
              refine wpAnyL_ready (rs := [7]) (by kernel_rfl) (by simp) ?_
              refine AllReadyL.cons (o := { dst := some 66, op := Go.Op.call { callee := Go.Callee.builtin Go.Builtin.append, args := #[Go.Operand.tmp 63, Go.Operand.tmp 65], argTypes := #[50, 50] }, type := 50, pos := "law.go:173", after := #[{ on := 4, ground := Go.Ground.data }, { on := 6, ground := Go.Ground.data }, { on := 3, ground := Go.Ground.chain }], guard := none }) rfl (fun K' hK => ?_) AllReadyL.nil
              refine step_append_lies _ (by rfl) _ _ _ (by rfl) w0.heap.size 32 i32 _ 1 24 Tryz.underlying50 hi32 hy320 hy321 hy322 zsz_sl (by decide) (.slice A6 NV c6) NV ls (by rfl) (by have := hV.r6; rw [HLL.out] at this; exact this) ⟨Bb, 0, none⟩ 1 1 [.slice A8 (putK ps p).length c8] (by rfl) rfl (World.news_of_block nb) (by simp [Value.oneCell']) (by omega) (by unfold maxLen; omega) (by omega) hV.hb _ rfl ?_
              intro gn6 cn6 We hown1 hgrow1 hat1 hlt1
              have hV2 := hV.grow6 (g := gn6) (cap := cn6) (u := .slice A8 (putK ps p).length c8) hgrow1 (by rw [HLL.out]; exact hown1)
              have h52 := hV.far6 hgrow1 h5 (by decide)
              have h62 := hV.far6 hgrow1 h6 (by decide)
              have hK2 := hK0.trans (KT.grown hV.r6 hgrow1 (.inr (.inl rfl)))
              have hBn := hB.grown hgrow1 hB.size (own_ge hV.r6)
              rw [HLL.out] at hV2
              refine hK.out _ _ (fun _ => ⟨h52.cell 0, h62.cell 0⟩) ?_
              clear hK K' hS hgrow1 hat1 hlt1 hown1 nb hV h5 h6 hB hK0
              try simp only [Act.put, List.setIfInBounds_toArray, List.set_cons_zero, List.set_cons_succ]
              have hV := hV2
              have h5 := h52
              have h6 := h62
              have hB := hBn
              have hK0 := hK2
              clear hV2 h52 h62 hBn hK2
              have hne := box_ne h5 h6
              have c5c := h5.cell 0
              have c5f := h5.frozen 0
              refine wpAnyL_ready (rs := [8]) (by kernel_rfl) (by simp) ?_
              refine AllReadyL.cons (o := { dst := none, op := Go.Op.store 49 (Go.Operand.tmp 6) (Go.Operand.tmp 62), type := 0, pos := "law.go:173", after := #[{ on := 3, ground := Go.Ground.data }, { on := 7, ground := Go.Ground.chain }, { on := 0, ground := Go.Ground.phase }, { on := 1, ground := Go.Ground.phase }, { on := 2, ground := Go.Ground.phase }, { on := 3, ground := Go.Ground.phase }, { on := 4, ground := Go.Ground.textOnly Go.Departure.inlinedCapture }, { on := 5, ground := Go.Ground.textOnly Go.Departure.lateStores }, { on := 6, ground := Go.Ground.textOnly Go.Departure.inlinedCapture }, { on := 7, ground := Go.Ground.textOnly Go.Departure.lateStoresUnsure }], guard := none }) rfl (fun K' hK => ?_) AllReadyL.nil
              go_simp
              refine hK.out _ _ (late_no (by kernel_rfl)) ?_
              clear hK K' c5c c5f
              try simp only [Act.put, List.setIfInBounds_toArray, List.set_cons_zero, List.set_cons_succ]
              have kp := (Keep.refl [N5] We).setCell (p := ⟨N5, 0, none⟩) (by simp) (.slice (some ⟨gn5, 0, none⟩) (NV + 1) cn5)
              have hV := hV.far h5 (by decide) kp
              have hK0 := hK0.trans (KT.one h5 (.inr (.inr (.inl rfl))) kp)
              have hB := hB.setCell (p := ⟨N5, 0, none⟩) hN5 (.slice (some ⟨gn5, 0, none⟩) (NV + 1) cn5)
              have h6 := h6.far (p := ⟨N5, 0, none⟩) hne (.slice (some ⟨gn5, 0, none⟩) (NV + 1) cn5)
              have h5 : Blk (We.setCell ⟨N5, 0, none⟩ (.slice (some ⟨gn5, 0, none⟩) (NV + 1) cn5)) N5 49 #[.slice (some ⟨gn5, 0, none⟩) (NV + 1) cn5] := h5.set_ 0 (.slice (some ⟨gn5, 0, none⟩) (NV + 1) cn5)
              clear kp
              generalize We.setCell ⟨N5, 0, none⟩ (.slice (some ⟨gn5, 0, none⟩) (NV + 1) cn5) = Wf at *
              have c6c := h6.cell 0
              have c6f := h6.frozen 0
              refine wpAnyL_ready (rs := [9]) (by kernel_rfl) (by simp) ?_
              refine AllReadyL.cons (o := { dst := none, op := Go.Op.store 50 (Go.Operand.tmp 7) (Go.Operand.tmp 66), type := 0, pos := "law.go:173", after := #[{ on := 7, ground := Go.Ground.data }, { on := 8, ground := Go.Ground.chain }, { on := 0, ground := Go.Ground.phase }, { on := 1, ground := Go.Ground.phase }, { on := 2, ground := Go.Ground.phase }, { on := 3, ground := Go.Ground.phase }, { on := 4, ground := Go.Ground.phase }, { on := 5, ground := Go.Ground.phase }, { on := 6, ground := Go.Ground.phase }, { on := 7, ground := Go.Ground.phase }, { on := 8, ground := Go.Ground.phase }], guard := none }) rfl (fun K' hK => ?_) AllReadyL.nil
              go_simp
              refine hK.out _ _ (late_no (by kernel_rfl)) ?_
              clear hK K' c6c c6f
              try simp only [Act.put, List.setIfInBounds_toArray, List.set_cons_zero, List.set_cons_succ]
              have kp := (Keep.refl [N6] Wf).setCell (p := ⟨N6, 0, none⟩) (by simp) (.slice (some ⟨gn6, 0, none⟩) (NV + 1) cn6)
              have hV := hV.far h6 (by decide) kp
              have hK0 := hK0.trans (KT.one h6 (.inr (.inr (.inr rfl))) kp)
              have hB := hB.setCell (p := ⟨N6, 0, none⟩) hN6 (.slice (some ⟨gn6, 0, none⟩) (NV + 1) cn6)
              have h5 := h5.far (p := ⟨N6, 0, none⟩) hne.symm (.slice (some ⟨gn6, 0, none⟩) (NV + 1) cn6)
              have h6 : Blk (Wf.setCell ⟨N6, 0, none⟩ (.slice (some ⟨gn6, 0, none⟩) (NV + 1) cn6)) N6 50 #[.slice (some ⟨gn6, 0, none⟩) (NV + 1) cn6] := h6.set_ 0 (.slice (some ⟨gn6, 0, none⟩) (NV + 1) cn6)
              clear kp
              generalize Wf.setCell ⟨N6, 0, none⟩ (.slice (some ⟨gn6, 0, none⟩) (NV + 1) cn6) = Wg at *
              refine wpAnyL_done (by kernel_rfl) ?_ _
              clear hne
              clear HRK
              have hfin := HSN.out b1 (.slice A8 (putK ps p).length c8) (putK ps p) Wg gn5 cn5 gn6 cn6 hV
              clear hV
              go_wp2_with fail
              refine ⟨⟨j + 1, vs ++ [⟨b1, .slice A8 (putK ps p).length c8, putK ps p⟩], _, _, b1, putK ps p, by omega, by omega, ?_, by go_num, rfl, hfin, h5, h6, ?_, ?_, ?_, ?_, ?_, ?_, hK0, hB⟩, by simp [intOf]; omega⟩
              · rw [List.length_append, hvl.out]; rfl
              · simp
              · simp
              · exact put_rises _ hr
              · have := put_len (ps := ps) p
                omega
              · intro x hx
                rcases put_sets.1 hx with rfl | ⟨h, _⟩
                · exact hp1
                · exact hz1 x h
              · intro e he
                rcases List.mem_append.1 he with he | he
                · exact HPs.out e he
                · rw [List.mem_singleton] at he
                  subst he
                  refine ⟨put_rises _ hr, Nat.le_trans (put_len p) (by omega), fun x hx => ?_⟩
                  rcases put_sets.1 hx with rfl | ⟨h, _⟩
                  · exact hp1
                  · exact hz1 x h


          · go_simp
            have hBl := (Below.refl _ Wd).alloc (Nat.le_refl _) (.cells #[.slice A8 (putK ps p).length c8] 32)
            have nb : Blk (Wd.alloc (.cells #[.slice A8 (putK ps p).length c8] 32)) Wd.heap.size 32 #[.slice A8 (putK ps p).length c8] := Blk.new Wd 32 #[.slice A8 (putK ps p).length c8]
            have hV := hV.below hBl
            have h5 := h5.below hBl
            have h6 := h6.below hBl
            have hK0 := hK0.trans (KT.ofBelow hBl)
            have hB := hB.trans (hBl.mono hB.size)
            skip
            refine hK.out _ _ (fun _ => ⟨h5.cell 0, h6.cell 0⟩) ?_
            clear hK K' hS hBl
            try simp only [Act.put, List.setIfInBounds_toArray, List.set_cons_zero, List.set_cons_succ]
            generalize Wd.alloc (.cells #[.slice A8 (putK ps p).length c8] 32) = Wa at *
            generalize Wd.heap.size = Bb at *
            have hS : (fun w' : World => w'.cell? ⟨N5, 0, none⟩ = some (.slice A5 NV c5) ∧ w'.cell? ⟨N6, 0, none⟩ = some (.slice A6 NV c6)) Wa := ⟨h5.cell 0, h6.cell 0⟩
            refine wpAnyL_ready (rs := [2]) (by kernel_rfl) (by simp) ?_
            refine AllReadyL.cons (o := { dst := some 61, op := Go.Op.buildSlice 49 1 #[(0, Go.Operand.tmp 60)], type := 49, pos := "law.go:173", after := #[{ on := 1, ground := Go.Ground.data }], guard := none }) rfl (fun K' hK => ?_) AllReadyL.nil
            go_simp
            have hBl := (Below.refl _ Wa).alloc (Nat.le_refl _) (.cells #[.pointer (some ⟨b1, 0, none⟩)] 30)
            have na : Blk (Wa.alloc (.cells #[.pointer (some ⟨b1, 0, none⟩)] 30)) Wa.heap.size 30 #[.pointer (some ⟨b1, 0, none⟩)] := Blk.new Wa 30 #[.pointer (some ⟨b1, 0, none⟩)]
            have hV := hV.below hBl
            have h5 := h5.below hBl
            have h6 := h6.below hBl
            have hK0 := hK0.trans (KT.ofBelow hBl)
            have hB := hB.trans (hBl.mono hB.size)
            have nb := nb.below hBl
            refine hK.out _ _ (fun _ => ⟨h5.cell 0, h6.cell 0⟩) ?_
            clear hK K' hS hBl
            try simp only [Act.put, List.setIfInBounds_toArray, List.set_cons_zero, List.set_cons_succ]
            generalize Wa.alloc (.cells #[.pointer (some ⟨b1, 0, none⟩)] 30) = Wb at *
            generalize Wa.heap.size = Ba at *
            have hS : (fun w' : World => w'.cell? ⟨N5, 0, none⟩ = some (.slice A5 NV c5) ∧ w'.cell? ⟨N6, 0, none⟩ = some (.slice A6 NV c6)) Wb := ⟨h5.cell 0, h6.cell 0⟩
            refine wpAnyL_ready (rs := [3]) (by kernel_rfl) (by simp) ?_
            refine AllReadyL.cons (o := { dst := some 62, op := Go.Op.call { callee := Go.Callee.builtin Go.Builtin.append, args := #[Go.Operand.tmp 59, Go.Operand.tmp 61], argTypes := #[49, 49] }, type := 49, pos := "law.go:173", after := #[{ on := 0, ground := Go.Ground.data }, { on := 2, ground := Go.Ground.data }], guard := none }) rfl (fun K' hK => ?_) AllReadyL.nil
            refine step_append_lies _ (by rfl) _ _ _ (by rfl) w0.heap.size 30 i30 _ 1 8 Tryz.underlying49 hi30 hy300 hy301 hy302 zsz_ptr (by decide) (.slice A5 NV c5) NV (kcs bs) (by rfl) (by have := hV.r5; rw [HBL.out] at this; exact this) ⟨Ba, 0, none⟩ 1 1 [.pointer (some ⟨b1, 0, none⟩)] (by rfl) rfl (World.news_of_block na) (by simp [Value.oneCell']) (by omega) (by unfold maxLen; omega) (by omega) hV.hb _ rfl ?_
            intro gn5 cn5 Wc hown1 hgrow1 hat1 hlt1
            have hV2 := hV.grow5 (g := gn5) (cap := cn5) (b := b1) hgrow1 (by rw [HBL.out]; exact hown1) hat1
            have h52 := hV.far5 hgrow1 h5 (by decide)
            have h62 := hV.far5 hgrow1 h6 (by decide)
            have nb := hV.far5 hgrow1 nb (by decide)
            have hK2 := hK0.trans (KT.grown hV.r5 hgrow1 (.inl rfl))
            have hBn := hB.grown hgrow1 hB.size (own_ge hV.r5)
            rw [HBL.out] at hV2
            refine hK.out _ _ (fun _ => ⟨h52.cell 0, h62.cell 0⟩) ?_
            clear hK K' hS hgrow1 hat1 hlt1 hown1 na hV h5 h6 hB hK0
            try simp only [Act.put, List.setIfInBounds_toArray, List.set_cons_zero, List.set_cons_succ]
            have hV := hV2
            have h5 := h52
            have h6 := h62
            have hB := hBn
            have hK0 := hK2
            clear hV2 h52 h62 hBn hK2
            have hS : (fun w' : World => w'.cell? ⟨N5, 0, none⟩ = some (.slice A5 NV c5) ∧ w'.cell? ⟨N6, 0, none⟩ = some (.slice A6 NV c6)) Wc := ⟨h5.cell 0, h6.cell 0⟩
            refine wpAnyL_ready (rs := [7]) (by kernel_rfl) (by simp) ?_
            refine AllReadyL.cons (o := { dst := some 66, op := Go.Op.call { callee := Go.Callee.builtin Go.Builtin.append, args := #[Go.Operand.tmp 63, Go.Operand.tmp 65], argTypes := #[50, 50] }, type := 50, pos := "law.go:173", after := #[{ on := 4, ground := Go.Ground.data }, { on := 6, ground := Go.Ground.data }, { on := 3, ground := Go.Ground.chain }], guard := none }) rfl (fun K' hK => ?_) AllReadyL.nil
            refine step_append_lies _ (by rfl) _ _ _ (by rfl) w0.heap.size 32 i32 _ 1 24 Tryz.underlying50 hi32 hy320 hy321 hy322 zsz_sl (by decide) (.slice A6 NV c6) NV ls (by rfl) (by have := hV.r6; rw [HLL.out] at this; exact this) ⟨Bb, 0, none⟩ 1 1 [.slice A8 (putK ps p).length c8] (by rfl) rfl (World.news_of_block nb) (by simp [Value.oneCell']) (by omega) (by unfold maxLen; omega) (by omega) hV.hb _ rfl ?_
            intro gn6 cn6 We hown1 hgrow1 hat1 hlt1
            have hV2 := hV.grow6 (g := gn6) (cap := cn6) (u := .slice A8 (putK ps p).length c8) hgrow1 (by rw [HLL.out]; exact hown1)
            have h52 := hV.far6 hgrow1 h5 (by decide)
            have h62 := hV.far6 hgrow1 h6 (by decide)
            have hK2 := hK0.trans (KT.grown hV.r6 hgrow1 (.inr (.inl rfl)))
            have hBn := hB.grown hgrow1 hB.size (own_ge hV.r6)
            rw [HLL.out] at hV2
            refine hK.out _ _ (fun _ => ⟨h52.cell 0, h62.cell 0⟩) ?_
            clear hK K' hS hgrow1 hat1 hlt1 hown1 nb hV h5 h6 hB hK0
            try simp only [Act.put, List.setIfInBounds_toArray, List.set_cons_zero, List.set_cons_succ]
            have hV := hV2
            have h5 := h52
            have h6 := h62
            have hB := hBn
            have hK0 := hK2
            clear hV2 h52 h62 hBn hK2
            have hne := box_ne h5 h6
            have c5c := h5.cell 0
            have c5f := h5.frozen 0
            refine wpAnyL_ready (rs := [8]) (by kernel_rfl) (by simp) ?_
            refine AllReadyL.cons (o := { dst := none, op := Go.Op.store 49 (Go.Operand.tmp 6) (Go.Operand.tmp 62), type := 0, pos := "law.go:173", after := #[{ on := 3, ground := Go.Ground.data }, { on := 7, ground := Go.Ground.chain }, { on := 0, ground := Go.Ground.phase }, { on := 1, ground := Go.Ground.phase }, { on := 2, ground := Go.Ground.phase }, { on := 3, ground := Go.Ground.phase }, { on := 4, ground := Go.Ground.textOnly Go.Departure.inlinedCapture }, { on := 5, ground := Go.Ground.textOnly Go.Departure.lateStores }, { on := 6, ground := Go.Ground.textOnly Go.Departure.inlinedCapture }, { on := 7, ground := Go.Ground.textOnly Go.Departure.lateStoresUnsure }], guard := none }) rfl (fun K' hK => ?_) AllReadyL.nil
            go_simp
            refine hK.out _ _ (late_no (by kernel_rfl)) ?_
            clear hK K' c5c c5f
            try simp only [Act.put, List.setIfInBounds_toArray, List.set_cons_zero, List.set_cons_succ]
            have kp := (Keep.refl [N5] We).setCell (p := ⟨N5, 0, none⟩) (by simp) (.slice (some ⟨gn5, 0, none⟩) (NV + 1) cn5)
            have hV := hV.far h5 (by decide) kp
            have hK0 := hK0.trans (KT.one h5 (.inr (.inr (.inl rfl))) kp)
            have hB := hB.setCell (p := ⟨N5, 0, none⟩) hN5 (.slice (some ⟨gn5, 0, none⟩) (NV + 1) cn5)
            have h6 := h6.far (p := ⟨N5, 0, none⟩) hne (.slice (some ⟨gn5, 0, none⟩) (NV + 1) cn5)
            have h5 : Blk (We.setCell ⟨N5, 0, none⟩ (.slice (some ⟨gn5, 0, none⟩) (NV + 1) cn5)) N5 49 #[.slice (some ⟨gn5, 0, none⟩) (NV + 1) cn5] := h5.set_ 0 (.slice (some ⟨gn5, 0, none⟩) (NV + 1) cn5)
            clear kp
            generalize We.setCell ⟨N5, 0, none⟩ (.slice (some ⟨gn5, 0, none⟩) (NV + 1) cn5) = Wf at *
            have c6c := h6.cell 0
            have c6f := h6.frozen 0
            refine wpAnyL_ready (rs := [9]) (by kernel_rfl) (by simp) ?_
            refine AllReadyL.cons (o := { dst := none, op := Go.Op.store 50 (Go.Operand.tmp 7) (Go.Operand.tmp 66), type := 0, pos := "law.go:173", after := #[{ on := 7, ground := Go.Ground.data }, { on := 8, ground := Go.Ground.chain }, { on := 0, ground := Go.Ground.phase }, { on := 1, ground := Go.Ground.phase }, { on := 2, ground := Go.Ground.phase }, { on := 3, ground := Go.Ground.phase }, { on := 4, ground := Go.Ground.phase }, { on := 5, ground := Go.Ground.phase }, { on := 6, ground := Go.Ground.phase }, { on := 7, ground := Go.Ground.phase }, { on := 8, ground := Go.Ground.phase }], guard := none }) rfl (fun K' hK => ?_) AllReadyL.nil
            go_simp
            refine hK.out _ _ (late_no (by kernel_rfl)) ?_
            clear hK K' c6c c6f
            try simp only [Act.put, List.setIfInBounds_toArray, List.set_cons_zero, List.set_cons_succ]
            have kp := (Keep.refl [N6] Wf).setCell (p := ⟨N6, 0, none⟩) (by simp) (.slice (some ⟨gn6, 0, none⟩) (NV + 1) cn6)
            have hV := hV.far h6 (by decide) kp
            have hK0 := hK0.trans (KT.one h6 (.inr (.inr (.inr rfl))) kp)
            have hB := hB.setCell (p := ⟨N6, 0, none⟩) hN6 (.slice (some ⟨gn6, 0, none⟩) (NV + 1) cn6)
            have h5 := h5.far (p := ⟨N6, 0, none⟩) hne.symm (.slice (some ⟨gn6, 0, none⟩) (NV + 1) cn6)
            have h6 : Blk (Wf.setCell ⟨N6, 0, none⟩ (.slice (some ⟨gn6, 0, none⟩) (NV + 1) cn6)) N6 50 #[.slice (some ⟨gn6, 0, none⟩) (NV + 1) cn6] := h6.set_ 0 (.slice (some ⟨gn6, 0, none⟩) (NV + 1) cn6)
            clear kp
            generalize Wf.setCell ⟨N6, 0, none⟩ (.slice (some ⟨gn6, 0, none⟩) (NV + 1) cn6) = Wg at *
            refine wpAnyL_done (by kernel_rfl) ?_ _
            clear hne
            clear HRK
            have hfin := HSN.out b1 (.slice A8 (putK ps p).length c8) (putK ps p) Wg gn5 cn5 gn6 cn6 hV
            clear hV
            go_wp2_with fail
            refine ⟨⟨j + 1, vs ++ [⟨b1, .slice A8 (putK ps p).length c8, putK ps p⟩], _, _, b1, putK ps p, by omega, by omega, ?_, by go_num, rfl, hfin, h5, h6, ?_, ?_, ?_, ?_, ?_, ?_, hK0, hB⟩, by simp [intOf]; omega⟩
            · rw [List.length_append, hvl.out]; rfl
            · simp
            · simp
            · exact put_rises _ hr
            · have := put_len (ps := ps) p
              omega
            · intro x hx
              rcases put_sets.1 hx with rfl | ⟨h, _⟩
              · exact hp1
              · exact hz1 x h
            · intro e he
              rcases List.mem_append.1 he with he | he
              · exact HPs.out e he
              · rw [List.mem_singleton] at he
                subst he
                refine ⟨put_rises _ hr, Nat.le_trans (put_len p) (by omega), fun x hx => ?_⟩
                rcases put_sets.1 hx with rfl | ⟨h, _⟩
                · exact hp1
                · exact hz1 x h


      · have G : (20 : Int) ≤ (j : Int) := by omega
        clear hAct
        have hfin := VB.mk hV h5 h6
        clear hV h5 h6
        go_wp2_with fail
        go_ret2
        exact ⟨vs, v5, v6, b, _, ps, rfl, hfin, hbm, hvm, hr, by omega, hz1, hPs, by omega, hK0, hB⟩
    · obtain rfl : j = len := by omega
      have G : ¬ ((j : Int) < (j : Int)) := by omega
      have hfin := VB.mk hV h5 h6
      clear hV h5 h6
      go_wp2_with fail
      go_ret2
      exact ⟨vs, v5, v6, b, _, ps, rfl, hfin, hbm, hvm, hr, by omega, hz1, hPs, by omega, hK0, hB⟩
end Go.Proofs.YtfmbikmpobieoaaGreat.champOwns
/- ChampOwns, part by part. -/
namespace Go.Proofs.YtfmbikmpobieoaaGreat.champOwns
open Go.ChangeShapes Go.WideShapes Go.RowKit Go.Lib
set_option linter.unusedVariables false
set_option linter.unusedSimpArgs false
set_option maxRecDepth 100000
attribute [local irreducible] cnt
set_option maxHeartbeats 16000000 in
theorem growL_any (k0 k1 m : Int) (w0 : World) (h0 : U64 k0) (h1 : U64 k1) (a : Option Addr) (len cap : Nat) (hA : ArgA w0 a len cap) (T : Nat) (N4 N5 N6 : Nat) (b0 : Nat) (v0 : Value) (ps0 : List Pr) (n0 : Nat) (w : World)
    (hB0 : Below w0.heap.size w0 w) (hH0 : Blk w N4 26 #[.int .u64 k0, .int .u64 k1, .int .u64 m]) (hv0 : TV w (some T) true) (X : Nat → Prop) (hXn : ∀ x, w.heap.size ≤ x → X x) (hXT : ¬ X T) (hT0 : Trie (hz k0 k1 m) X (some T) true w0.heap.size w 13 0 b0 ps0 (fun _ => False)) (hO0 : OwnR w0.heap.size w v0 ps0) (hr0 : RisesL ps0) (hn : ps0.length ≤ n0) (hn0 : n0 ≤ 600) (hz0 : ∀ x ∈ ps0, x.1.size ≤ 40) :
    Calls Tryz.prog 21 #[.slice a len cap, .pointer (some ⟨T, 0, none⟩), .pointer (some ⟨b0, 0, none⟩), v0, .bool false, .pointer (some ⟨N4, 0, none⟩), .pointer (some ⟨N5, 0, none⟩), .pointer (some ⟨N6, 0, none⟩)] w fun e w' => ∃ (b' : Nat) (v' : Value) (ps' : List Pr) (F' : Nat → Prop), e = .returned (.tuple #[.pointer (some ⟨b', 0, none⟩), v']) ∧
      Trie (hz k0 k1 m) X (some T) true w0.heap.size w' 13 0 b' ps' F' ∧ (∀ x, F' x → w.heap.size ≤ x) ∧ OwnR w0.heap.size w' v' ps' ∧ RisesL ps' ∧ ps'.length ≤ n0 + 20 ∧ (∀ x ∈ ps', x.1.size ≤ 40) ∧ Below w.heap.size w w' := by
  have hl1 := hA.len_le
  have HA := Lib.hid hA
  have hH0 := Lib.hid hH0
  have hTl := hv0.old
  have hw0 := Lib.hid hB0.size
  have HB0 := Lib.hid hB0
  clear hA hB0
  obtain ⟨A0, c0, rfl, -⟩ := hO0.rd
  go_enter Tryz.func21, Tryz.ntmps21
  go_wp2_with fail
  go_loopw [2, 3, 20] (fun v2 v3 vi wr => ∃ (j b : Nat) (ps : List Pr) (F : Nat → Prop), j ≤ len ∧ j ≤ 20 ∧ vi = .int .i64 j ∧ v2 = .pointer (some ⟨b, 0, none⟩) ∧
      Trie (hz k0 k1 m) X (some T) true w0.heap.size wr 13 0 b ps F ∧ (∀ x, F x → w.heap.size ≤ x) ∧ OwnR w0.heap.size wr v3 ps ∧ TV wr (some T) true ∧ RisesL ps ∧ ps.length ≤ n0 + j ∧ (∀ x ∈ ps, x.1.size ≤ 40) ∧ Below w.heap.size w wr) (fun v2 v3 vi wr => len - (intOf vi).toNat)
  case atStart => exact ⟨0, b0, ps0, _, by omega, by omega, rfl, rfl, hT0, fun _ h => h.elim, hO0, hv0, hr0, hn, hz0, Below.refl _ _⟩
  case round =>
    clear hT0 hO0 hr0 hn hz0 hv0
    obtain ⟨j, b, ps, F, hj, hj20, rfl, rfl, hTr, hFS, hO, hv, hr, hn, hz1, hBS⟩ := hrel
    by_cases hlt : j < len
    · obtain ⟨x, dd, ka, q, ow, rfl, hdd, hka, c0', c1, c2, c3, c4⟩ := HA.out.at (HB0.out.trans (hBS.mono hw0.out)) j hlt
      have L1 : (j : Int) < (len : Int) := by omega
      have L2 : IntKind.i64.wrap ((j : Int) + 1) = ((j + 1 : Nat) : Int) := by rw [IntWalk.i64_in _ (by unfold maxLen at hl1; omega)]; omega
      obtain ⟨A, c, evk, -⟩ := hO.rd
      subst evk
      go_upto_region 4 with (fail)
      have hBl := (Below.refl _ wr).alloc (Nat.le_refl _) (.cells #[.int .u8 dd, .string q.1, .string q.2, .int .u8 ka, .bool ow] 36)
      have hAct := Blk.new wr 36 #[.int .u8 dd, .string q.1, .string q.2, .int .u8 ka, .bool ow]
      have hBS := hBS.trans (hBl.mono hBS.size)
      have hTr := Trie.below hTr hBl
      have hO := hO.below' hBl
      have hv := hv.below hBl

      clear c0' c1 c2 c3 c4 hBl
      generalize wr.alloc (.cells #[.int .u8 dd, .string q.1, .string q.2, .int .u8 ka, .bool ow] 36) = W1 at *
      generalize wr.heap.size = N16 at *
      by_cases h20 : j < 20
      · have G : ¬ ((20 : Int) ≤ (j : Int)) := by omega
        have d0 : W1.cell? ⟨N16, 0, none⟩ = some (.int .u8 dd) := hAct.cell 0
        have d1 : W1.cell? ⟨N16, 1, none⟩ = some (.string q.1) := hAct.cell 1
        have d2 : W1.cell? ⟨N16, 2, none⟩ = some (.string q.2) := hAct.cell 2
        have kfew := few_any q W1
        have hp1 : (few40 q).1.size ≤ 40 := cut40_size q.1
        generalize few40 q = p at *
        have hp1000 : p.1.size ≤ 1000 := by omega
        go_wp2_with fail
        refine kfew.mono ?_
        rintro e w3 ⟨rfl, hB3⟩
        clear kfew d1 d2 d0
        go_upto_region 6 with (fail)
        have hFN : ∀ x, F x → x < w3.heap.size := fun x hx => Nat.lt_of_lt_of_le (Trie.blocks _ _ _ _ _ hTr x hx).2.1 hB3.size
        have hBl := hB3.alloc hB3.size (.cells #[.string p.1, .string p.2] 34)
        have hP := Blk.new w3 34 #[.string p.1, .string p.2]
        have hAct := hAct.below hBl
        have hBS := hBS.trans (hBl.mono hBS.size)
        have hTr := Trie.below hTr hBl
        have hO := hO.below' hBl
        have hv := hv.below hBl

        clear hBl hB3
        generalize w3.alloc (.cells #[.string p.1, .string p.2] 34) = W4 at *
        generalize w3.heap.size = N17 at *
        have d0 : W4.cell? ⟨N16, 0, none⟩ = some (.int .u8 dd) := hAct.cell 0
        have hcx : Cx X (some T) true w0.heap.size W4 := ⟨hv, fun _ x hx => hXn x (Nat.le_trans hBS.size hx), fun h => by simp at h, Nat.le_trans hw0.out hBS.size, fun _ t e hx => by simp only [Option.some.injEq] at e; subst e; exact hXT hx⟩
        have kd := drop_L T p.1 h0 h1 hp1000 hcx hTr hr (by omega)
        have kp := put_L T p h0 h1 hp1000 hcx hTr hr (by omega) (fun x hx => Nat.le_trans (hz1 x hx) (by omega))
        clear hAct hcx
        by_cases h3 : dd % 4 = 3
        · have D3 := (dmod hdd).1 h3
          have hH := hH0.out.below hBS
          have s0 : W4.cell? ⟨N4, 0, none⟩ = some (.int .u64 k0) := hH.cell 0
          have s1 : W4.cell? ⟨N4, 1, none⟩ = some (.int .u64 k1) := hH.cell 1
          have s2 : W4.cell? ⟨N4, 2, none⟩ = some (.int .u64 m) := hH.cell 2
          have p0 : W4.cell? ⟨N17, 0, none⟩ = some (.string p.1) := hP.cell 0
          have p1 : W4.cell? ⟨N17, 1, none⟩ = some (.string p.2) := hP.cell 1
          clear hH
          go_wp2_with fail
          refine kd.mono ?_
          rintro e w5 ⟨b1, gb, rfl, F', hT1, hK5, hv5, hF'⟩
          clear kp kd s0 s1 s2 p0 p1
          have hO := hO.keepF hK5 (Trie.types _ _ _ _ _ hTr)
          have hP := hP.keepF hK5 (fun h => by have := hFN _ h; omega)
          have hFS' : ∀ x, F' x → w.heap.size ≤ x := fun x hx => by
            rcases hF' x hx with h | h
            · exact hFS x h
            · exact Nat.le_trans hBS.size h
          have hBS := hBS.trans (hK5.belowAt (base := w.heap.size) (fun x hx => hFS x hx) hBS.size)
          clear hTr hv hK5 hFN hFS hF'
          have hRk : Rd w5 A ps := by
            obtain ⟨A', c', e', hr'⟩ := hO.rd
            simp only [Value.slice.injEq] at e'
            obtain ⟨rfl, -⟩ := e'
            exact hr'
          have p0 : w5.cell? ⟨N17, 0, none⟩ = some (.string p.1) := hP.cell 0
          have p1 : w5.cell? ⟨N17, 1, none⟩ = some (.string p.2) := hP.cell 1
          have kc := refDrop_any A c ps p.1 _ hRk (by omega)
          skip
          go_wp2_with fail
          refine kc.mono ?_
          rintro e w6 ⟨v8, rfl, hO8, hB6⟩
          have hBz := Nat.le_trans hw0.out hBS.size
          have hO8 := OwnR.base hO8 hBz
          have hBS := hBS.trans (hB6.mono hBS.size)
          have hT1 := Trie.below hT1 hB6
          have hv := hv5.below hB6
          clear kc p0 p1 hO hRk hP hB6 hv5 hBz d0
          go_wp2_with fail
          refine ⟨⟨j + 1, b1, dropK ps p.1, F', by omega, by omega, by go_num, rfl, hT1, hFS', hO8, hv, ?_, ?_, ?_, hBS⟩, by simp [intOf]; omega⟩
          · exact drop_rises _ _ hr
          · exact Nat.le_trans (List.length_filter_le _ _) (by omega)
          · exact fun x hx => hz1 x ((drop_mem _ _ _).1 hx).1

        · have D3 := (dmod hdd).2 h3
          have hH := hH0.out.below hBS
          have s0 : W4.cell? ⟨N4, 0, none⟩ = some (.int .u64 k0) := hH.cell 0
          have s1 : W4.cell? ⟨N4, 1, none⟩ = some (.int .u64 k1) := hH.cell 1
          have s2 : W4.cell? ⟨N4, 2, none⟩ = some (.int .u64 m) := hH.cell 2
          have p0 : W4.cell? ⟨N17, 0, none⟩ = some (.string p.1) := hP.cell 0
          have p1 : W4.cell? ⟨N17, 1, none⟩ = some (.string p.2) := hP.cell 1
          clear hH
          go_wp2_with fail
          refine kp.mono ?_
          rintro e w5 ⟨b1, gb, rfl, F', hT1, hK5, hv5, hF'⟩
          clear kp kd s0 s1 s2 p0 p1
          have hO := hO.keepF hK5 (Trie.types _ _ _ _ _ hTr)
          have hP := hP.keepF hK5 (fun h => by have := hFN _ h; omega)
          have hFS' : ∀ x, F' x → w.heap.size ≤ x := fun x hx => by
            rcases hF' x hx with h | h
            · exact hFS x h
            · exact Nat.le_trans hBS.size h
          have hBS := hBS.trans (hK5.belowAt (base := w.heap.size) (fun x hx => hFS x hx) hBS.size)
          clear hTr hv hK5 hFN hFS hF'
          have hRk : Rd w5 A ps := by
            obtain ⟨A', c', e', hr'⟩ := hO.rd
            simp only [Value.slice.injEq] at e'
            obtain ⟨rfl, -⟩ := e'
            exact hr'
          have p0 : w5.cell? ⟨N17, 0, none⟩ = some (.string p.1) := hP.cell 0
          have p1 : w5.cell? ⟨N17, 1, none⟩ = some (.string p.2) := hP.cell 1
          have kc := refPut_any A c ps p _ hRk (by omega) (sized_mem fun x hx => Nat.le_trans (hz1 x hx) (by unfold maxLen; omega)) (by unfold maxLen; omega)
          unfold Pr.v at kc
          go_wp2_with fail
          refine kc.mono ?_
          rintro e w6 ⟨v8, rfl, hO8, hB6⟩
          have hBz := Nat.le_trans hw0.out hBS.size
          have hO8 := OwnR.base hO8 hBz
          have hBS := hBS.trans (hB6.mono hBS.size)
          have hT1 := Trie.below hT1 hB6
          have hv := hv5.below hB6
          clear kc p0 p1 hO hRk hP hB6 hv5 hBz d0
          go_wp2_with fail
          refine ⟨⟨j + 1, b1, putK ps p, F', by omega, by omega, by go_num, rfl, hT1, hFS', hO8, hv, ?_, ?_, ?_, hBS⟩, by simp [intOf]; omega⟩
          · exact put_rises _ hr
          · have := put_len (ps := ps) p
            omega
          · intro x hx
            rcases put_sets.1 hx with rfl | ⟨h, _⟩
            · exact hp1
            · exact hz1 x h

      · have G : (20 : Int) ≤ (j : Int) := by omega
        clear hAct
        go_wp2_with fail
        go_ret2
        first | exact ⟨b, _, ps, F, rfl, hTr, hFS, hO, hr, by omega, hz1, hBS⟩ | exact ⟨b, _, rfl, ps, F, hTr, hFS, hO, hr, by omega, fun x y h => hz1 (x, y) h, hBS⟩
    · obtain rfl : j = len := by omega
      have G : ¬ ((j : Int) < (j : Int)) := by omega
      go_wp2_with fail
      go_ret2
      first | exact ⟨b, _, ps, F, rfl, hTr, hFS, hO, hr, by omega, hz1, hBS⟩ | exact ⟨b, _, rfl, ps, F, hTr, hFS, hO, hr, by omega, fun x y h => hz1 (x, y) h, hBS⟩
end Go.Proofs.YtfmbikmpobieoaaGreat.champOwns
