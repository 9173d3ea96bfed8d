/- The law's like: a node is the reference's trie. -/
import Derived.Test.YtfmbikmpobieoaaGreatMX
import Derived.Test.YtfmbikmpobieoaaGreatMU
namespace Go.Proofs.YtfmbikmpobieoaaGreat
open Go.RowKit Go.Lib
set_option linter.unusedVariables false
set_option linter.unusedSimpArgs false
set_option maxRecDepth 100000
attribute [local irreducible] cnt
def TrueB (w : World) (e : Ending) (w' : World) : Prop := e = .returned (.bool true) ∧ Below w.heap.size w w'
set_option maxHeartbeats 8000000 in
theorem like_zero (H : ByteArray → Nat) (N X : Nat → Prop) (tk : Option Nat) (lv : Bool) (base l l' b tb : Nat) (ps : List Pr) (F : Nat → Prop) (w : World) (h : Trie H X tk lv base w 0 l b ps F) (hr : TrieR H N w 0 l' tb ps) (hn : ps.length ≤ 800) :
    Calls Tryz.prog 35 #[.pointer (some ⟨b, 0, none⟩), .pointer (some ⟨tb, 0, none⟩)] w (TrueB w) := by
  obtain ⟨ow, pv, kv, lo, hB, -, -⟩ := h
  obtain ⟨f, A, c, hRB, -, f0, f1, hRd, -⟩ := hr
  have kb : ∀ q, Calls Tryz.prog 65 #[at0 b] (w.drewN q) fun e w' => e = .returned (.bool true) ∧ w' = w.drewN q := fun q => (isBucket_any _ _ _ _ _ _ _ _ _ _ (w.drewN q) (hB.1.drewN q)).mono fun e w' h => ⟨h.1, h.2.symm⟩
  have kp := fun q => pairs_any _ _ _ _ _ _ _ _ _ _ (w.drewN q) (hB.1.drewN q) hn
  have c0 := hRB.cell 0 (by omega)
  have c1 := hRB.cell 1 (by omega)
  rw [f0] at c0
  rw [f1] at c1
  have HRd := Lib.hid hRd
  have hl : b = b := rfl
  unfold at0 at kb kp
  clear hB hRB f0 f1 hRd
  go_enter Tryz.func35, Tryz.ntmps35
  go_upto_region 1 with (fail)
  go_quiet ((go_at_call 65; exact Calls.quiet_of_same (kb _)))
  have d0 : (w.drewN nq).cell? ⟨tb, 0, none⟩ = some (.bool true) := c0
  have d1 : (w.drewN nq).cell? ⟨tb, 1, none⟩ = some (.slice A ps.length c) := c1
  have kp1 := kp nq
  have hBd : Below w.heap.size w (w.drewN nq) := ⟨rfl, rfl, rfl, Nat.le_refl _, fun _ _ => rfl⟩
  have hlt1 : tb < (w.drewN nq).heap.size := World.block_lt_of_cell? w _ c0
  clear kb kp c0 c1 hl
  generalize w.drewN nq = W at *
  go_wp2_with fail
  refine kp1.mono ?_
  rintro e W2 ⟨v, rfl, hO, hB2⟩
  obtain ⟨A2, c2, rfl, hR2⟩ := own_slice hO
  have e0 := (hB2.cell (p := ⟨tb, 0, none⟩) hlt1).trans d0
  have e1 := (hB2.cell (p := ⟨tb, 1, none⟩) hlt1).trans d1
  have hB3 := hBd.trans (hB2.mono hBd.size)
  have HR1 := Lib.hid (HRd.out.below hB3)
  have HR2 := Lib.hid hR2
  have hlt2 := Nat.lt_of_lt_of_le hlt1 hB2.size
  clear kp1 hO hR2 HRd d0 d1 hBd hB2 hlt1 e0
  go_wp2_with fail
  go_loopw [39] (fun vi wr => ∃ j q : Nat, j ≤ ps.length ∧ vi = .int .i64 j ∧ wr = W2.drewN q) (fun vi wr => ps.length - (intOf vi).toNat)
  case atStart => exact ⟨0, 0, by omega, rfl, rfl⟩
  case round =>
    obtain ⟨j, q, hj, rfl, rfl⟩ := hrel
    by_cases hlt : j < ps.length
    · obtain ⟨g1, o1, rfl, a0, a1⟩ := HR1.out j ps[j] (List.getElem?_eq_getElem hlt)
      obtain ⟨g2, o2, rfl, b0, b1⟩ := HR2.out j ps[j] (List.getElem?_eq_getElem hlt)
      have L1 : (j : Int) < (ps.length : Int) := by omega
      have L2 : IntKind.i64.wrap ((j : Int) + 1) = ((j + 1 : Nat) : Int) := by rw [IntWalk.i64_in _ (by omega)]; omega
      have hnq : ∀ w, (binOp .neq 45 (.agg #[.string ps[j].1, .string ps[j].2]) (.agg #[.string ps[j].1, .string ps[j].2])).run Tryz.prog w = .ok (.bool false) w := fun w => by rw [neq40 ps[j] ps[j] w]; simp [peq]
      generalize ps[j] = p at *
      have m1 : (W2.drewN q).cell? ⟨g1, o1 + j * 2, none⟩ = some (.string p.1) := a0
      have m2 : (W2.drewN q).cell? ⟨g1, o1 + j * 2 + 1, none⟩ = some (.string p.2) := a1
      have m3 : (W2.drewN q).cell? ⟨g2, o2 + j * 2, none⟩ = some (.string p.1) := b0
      have m4 : (W2.drewN q).cell? ⟨g2, o2 + j * 2 + 1, none⟩ = some (.string p.2) := b1
      have m5 : (W2.drewN q).cell? ⟨tb, 1, none⟩ = some (.slice (some ⟨g1, o1, none⟩) ps.length c) := e1
      have HD := Lib.hid (fun n => World.drewN_drewN W2 q n)
      clear a0 a1 b0 b1 e1
      generalize W2.drewN q = W5 at *
      go_upto_region 10 with (fail)
      go_quiet (fail)
      go_wp2_with fail
      exact ⟨⟨j + 1, q + nq, by omega, by go_num, HD.out nq⟩, by simp [intOf]; omega⟩
    · obtain rfl : j = ps.length := by omega
      have hB4 : Below w.heap.size w (W2.drewN q) := ⟨hB3.os, hB3.tape, hB3.output, hB3.size, hB3.block⟩
      clear hB3 HR1 HR2 e1
      generalize W2.drewN q = W5 at *
      go_wp2_with fail
      go_ret
      exact ⟨rfl, hB4⟩
theorem keepL {w w' : World} {b i j : Nat} {u v : Value} (h : w.cell? ⟨b, i, none⟩ = some u ∧ w.cell? ⟨b, j, none⟩ = some v) (hb : Below w.heap.size w w') : w'.cell? ⟨b, i, none⟩ = some u ∧ w'.cell? ⟨b, j, none⟩ = some v :=
  ⟨(hb.cell (p := ⟨b, i, none⟩) (World.block_lt_of_cell? w _ h.1)).trans h.1, (hb.cell (p := ⟨b, j, none⟩) (World.block_lt_of_cell? w _ h.2)).trans h.2⟩
set_option maxHeartbeats 16000000 in
theorem like_succ (H : ByteArray → Nat) (N X : Nat → Prop) (tk : Option Nat) (lv : Bool) (base n : Nat)
    (ih : ∀ (l b tb : Nat) (ps : List Pr) (F : Nat → Prop) (w : World), Trie H X tk lv base w n l b ps F → TrieR H N w n l tb ps → ps.length ≤ 800 → Calls Tryz.prog 35 #[.pointer (some ⟨b, 0, none⟩), .pointer (some ⟨tb, 0, none⟩)] w (TrueB w))
    (l b tb : Nat) (ps : List Pr) (F : Nat → Prop) (w : World) (h : Trie H X tk lv base w (n + 1) l b ps F) (hr : TrieR H N w (n + 1) l tb ps) (hn : ps.length ≤ 800) :
    Calls Tryz.prog 35 #[.pointer (some ⟨b, 0, none⟩), .pointer (some ⟨tb, 0, none⟩)] w (TrueB w) := by
  obtain ⟨ow, pv, kv, lo, S, Fs, hI, -, -, hS⟩ := h
  obtain ⟨f, hRB, -, f0, hSR⟩ := hr
  have kb : ∀ q, Calls Tryz.prog 65 #[at0 b] (w.drewN q) fun e w' => e = .returned (.bool false) ∧ w' = w.drewN q := fun q => by
    obtain ⟨d, nn, hN, -, -⟩ := hI
    exact (isBucket_any _ _ _ _ _ _ _ _ _ _ (w.drewN q) (hN.drewN q)).mono fun e w' h => ⟨h.1, h.2.symm⟩
  have c0 := hRB.cell 0 (by omega)
  rw [f0] at c0
  have HI := Lib.hid hI
  have HS := Lib.hid hS
  have HSR := Lib.hid hSR
  have HRB := Lib.hid hRB
  have HIH := Lib.hid ih
  unfold at0 at kb
  clear hI hS hSR hRB ih f0
  go_enter Tryz.func35, Tryz.ntmps35
  go_upto_region 1 with (fail)
  go_quiet ((go_at_call 65; exact Calls.quiet_of_same (kb _)))
  have d0 : (w.drewN nq).cell? ⟨tb, 0, none⟩ = some (.bool false) := c0
  have hBd : Below w.heap.size w (w.drewN nq) := ⟨rfl, rfl, rfl, Nat.le_refl _, fun _ _ => rfl⟩
  clear kb c0
  generalize w.drewN nq = W at *
  go_wp2_with fail
  go_loopw [55] (fun vi wr => ∃ c : Nat, c ≤ 32 ∧ vi = .int .i64 c ∧ Below w.heap.size w wr) (fun vi wr => 32 - (intOf vi).toNat)
  case atStart => exact ⟨0, by omega, rfl, hBd⟩
  case round =>
    clear hBd d0
    obtain ⟨c, hc, rfl, hB⟩ := hrel
    by_cases hlt : c < 32
    · have L1 : (c : Int) < 32 := by omega
      have L2 : IntKind.i64.wrap ((c : Int) + 1) = ((c + 1 : Nat) : Int) := by rw [IntWalk.i64_in _ (by omega)]; omega
      have kp := Inn.pair base b c ow S pv kv wr (HI.out.below hB) hlt
      have kk := fun w' (hw : Below w.heap.size w w') => Inn.kid base b c ow S pv kv w' (HI.out.below hw) hlt
      have hs := HS.out c hlt
      have hr := HSR.out c hlt
      unfold SlotIs at hs
      unfold at0 at kp kk
      cases hsc : S c with
      | no =>
        rw [hsc] at hs
        have eP : S.P c = none := by unfold Slots.P; rw [hsc]; rfl
        have eK : S.K c = none := by unfold Slots.K; rw [hsc]; rfl
        rw [eP] at kp
        rw [eK] at kk
        rw [hs.1] at hr
        have hr0 : f (2 + c) = .int .i64 0 := hr
        have z2 := HRB.out.cell (2 + c) (by omega)
        rw [hr0] at z2
        have hzl := World.block_lt_of_cell? w _ z2
        clear hs hr hr0 HS HSR
        go_wp2_with fail
        refine kp.mono ?_
        rintro e w1 ⟨rfl, hB1⟩
        simp only [optP, Option.isSome_none]
        go_upto_region 18 with (fail)
        have hBa := (hB.trans (hB1.mono hB.size)).alloc (Nat.le_trans hB.size hB1.size) (.cells #[.string ⟨#[]⟩, .string ⟨#[]⟩] 34)
        generalize w1.alloc (.cells #[.string ⟨#[]⟩, .string ⟨#[]⟩] 34) = W1 at *
        go_wp2_with fail
        refine (kk _ hBa).mono ?_
        rintro e w2 ⟨rfl, hB2⟩
        simp only [pt, Option.isSome_none]
        have hBb := hBa.trans (hB2.mono hBa.size)
        have z2' : w2.cell? ⟨tb, 2 + c, none⟩ = some (.int .i64 0) := (hBb.cell (p := ⟨tb, 2 + c, none⟩) hzl).trans z2
        clear kp kk hB1 hB2 hBa hB z2
        go_upto_region 19 with (fail)
        go_quiet (fail)
        have hBc : Below w.heap.size w (w2.drewN nq) := ⟨hBb.os, hBb.tape, hBb.output, hBb.size, hBb.block⟩
        clear hBb z2'
        generalize w2.drewN nq = W3 at *
        go_wp2_with fail
        exact ⟨⟨c + 1, by omega, by go_num, hBc⟩, by simp [intOf]; omega⟩
      | pr p =>
        rw [hsc] at hs
        have eP : S.P c = some p := by unfold Slots.P; rw [hsc]; rfl
        have eK : S.K c = none := by unfold Slots.K; rw [hsc]; rfl
        rw [eP] at kp
        rw [eK] at kk
        rw [hs.1] at hr
        obtain ⟨r0, r1, r2⟩ := (show f (2 + c) = .int .i64 1 ∧ f (34 + c * 2) = .string p.1 ∧ f (34 + c * 2 + 1) = .string p.2 from hr)
        have z2 := HRB.out.cell (2 + c) (by omega)
        have z3 := HRB.out.cell (34 + c * 2) (by omega)
        have z4 := HRB.out.cell (34 + c * 2 + 1) (by omega)
        rw [r0] at z2
        rw [r1] at z3
        rw [r2] at z4
        have hzl := World.block_lt_of_cell? w _ z2
        have hnq : ∀ w, (binOp .neq 45 (.agg #[.string p.1, .string p.2]) (.agg #[.string p.1, .string p.2])).run Tryz.prog w = .ok (.bool false) w := fun w => by rw [neq40 p p w]; simp [peq]
        clear hs hr r0 r1 r2 HS HSR
        go_wp2_with fail
        refine kp.mono ?_
        rintro e w1 ⟨rfl, hB1⟩
        simp only [optP, Pr.v, Option.isSome_some]
        go_upto_region 18 with (fail)
        have hBa := (hB.trans (hB1.mono hB.size)).alloc (Nat.le_trans hB.size hB1.size) (.cells #[.string p.1, .string p.2] 34)
        have hnew := Blk.new w1 34 #[.string p.1, .string p.2]
        generalize w1.alloc (.cells #[.string p.1, .string p.2] 34) = W1 at *
        generalize w1.heap.size = N8 at *
        go_wp2_with fail
        refine (kk _ hBa).mono ?_
        rintro e w2 ⟨rfl, hB2⟩
        simp only [pt, Option.isSome_none]
        have hBb := hBa.trans (hB2.mono hBa.size)
        have hnew2 := hnew.below hB2
        have n0 : w2.cell? ⟨N8, 0, none⟩ = some (.string p.1) := hnew2.cell 0
        have n1 : w2.cell? ⟨N8, 1, none⟩ = some (.string p.2) := hnew2.cell 1
        have z2' : w2.cell? ⟨tb, 2 + c, none⟩ = some (.int .i64 1) := (hBb.cell (p := ⟨tb, 2 + c, none⟩) hzl).trans z2
        have z3' : w2.cell? ⟨tb, 34 + c * 2, none⟩ = some (.string p.1) := (hBb.cell (p := ⟨tb, 34 + c * 2, none⟩) hzl).trans z3
        have z4' : w2.cell? ⟨tb, 34 + c * 2 + 1, none⟩ = some (.string p.2) := (hBb.cell (p := ⟨tb, 34 + c * 2 + 1, none⟩) hzl).trans z4
        clear kp kk hB1 hB2 hBa hB z2 z3 z4 hnew hnew2
        go_upto_region 19 with (fail)
        go_quiet (fail)
        have hBc : Below w.heap.size w (w2.drewN nq) := ⟨hBb.os, hBb.tape, hBb.output, hBb.size, hBb.block⟩
        clear hBb z2' z3' z4' n0 n1
        generalize w2.drewN nq = W3 at *
        go_wp2_with fail
        exact ⟨⟨c + 1, by omega, by go_num, hBc⟩, by simp [intOf]; omega⟩
      | kd k =>
        rw [hsc] at hs
        have eP : S.P c = none := by unfold Slots.P; rw [hsc]; rfl
        have eK : S.K c = some k := by unfold Slots.K; rw [hsc]; rfl
        rw [eP] at kp
        rw [eK] at kk
        obtain ⟨r0, kb, r1, hT⟩ : f (2 + c) = .int .i64 2 ∧ ∃ kb, f (98 + c) = at0 kb ∧ TrieR H N w n (l + 1) kb (sub H l c ps) := by
          have h2 := hs.1
          match hq : sub H l c ps, h2 with
          | x :: y :: r, _ => rw [hq] at hr; exact hr
        have kl := fun w' (hw : Below w.heap.size w w') => HIH.out (l + 1) k kb (sub H l c ps) (Fs c) w' (hs.2.below hw) (TrieR.below hT hw) (Nat.le_trans sub_len hn)
        have z2 := HRB.out.cell (2 + c) (by omega)
        have z3 := HRB.out.cell (98 + c) (by omega)
        rw [r0] at z2
        rw [r1] at z3
        unfold at0 at z3
        have hzl := World.block_lt_of_cell? w _ z2
        clear hs hr r0 r1 hT HS HSR
        go_wp2_with fail
        refine kp.mono ?_
        rintro e w1 ⟨rfl, hB1⟩
        simp only [optP, Option.isSome_none]
        go_upto_region 18 with (fail)
        have hBa := (hB.trans (hB1.mono hB.size)).alloc (Nat.le_trans hB.size hB1.size) (.cells #[.string ⟨#[]⟩, .string ⟨#[]⟩] 34)
        generalize w1.alloc (.cells #[.string ⟨#[]⟩, .string ⟨#[]⟩] 34) = W1 at *
        go_wp2_with fail
        refine (kk _ hBa).mono ?_
        rintro e w2 ⟨rfl, hB2⟩
        simp only [pt, Option.isSome_some]
        unfold at0
        have hBb := hBa.trans (hB2.mono hBa.size)
        have hS0 : (fun w' : World => w'.cell? ⟨tb, 2 + c, none⟩ = some (.int .i64 2) ∧ w'.cell? ⟨tb, 98 + c, none⟩ = some (.pointer (some ⟨kb, 0, none⟩))) w2.drew := ⟨(hBb.cell (p := ⟨tb, 2 + c, none⟩) hzl).trans z2, (hBb.cell (p := ⟨tb, 98 + c, none⟩) hzl).trans z3⟩
        have hBd : Below w.heap.size w w2.drew := hBb.drew
        clear kp kk hB1 hB2 hBa hB z2 z3 hBb
        go_upto_region 19 with (fail)
        refine wp_region_held_drew (S := fun w' : World => w'.cell? ⟨tb, 2 + c, none⟩ = some (.int .i64 2) ∧ w'.cell? ⟨tb, 98 + c, none⟩ = some (.pointer (some ⟨kb, 0, none⟩))) (by kernel_rfl) hS0 ?_
        intro hS
        refine wpAnyH_take (i := 0) (oi := { dst := some 70, op := Go.Op.move (Go.Operand.tmp 9), type := 4, pos := "law.go:57", after := #[], guard := none }) (v := .bool false) rfl (by kernel_rfl) (by kernel_rfl) (by kernel_rfl) (fun _ _ _ h => h) (Or.inl ⟨by rfl, fun w hSw => ?_⟩) hS ?_
        · go_split_ands
          go_simp
        try simp only [Act.put, List.setIfInBounds_toArray, List.set_cons_zero, List.set_cons_succ]
        refine wpAnyH_take (i := 1) (oi := { dst := some 71, op := Go.Op.move (Go.Operand.tmp 1), type := 83, pos := "law.go:57", after := #[], guard := none }) (v := .pointer (some ⟨tb, 0, none⟩)) rfl (by kernel_rfl) (by kernel_rfl) (by kernel_rfl) (fun _ _ _ h => h) (Or.inl ⟨by rfl, fun w hSw => ?_⟩) hS ?_
        · go_split_ands
          go_simp
        try simp only [Act.put, List.setIfInBounds_toArray, List.set_cons_zero, List.set_cons_succ]
        refine wpAnyH_take (i := 2) (oi := { dst := some 72, op := Go.Op.move (Go.Operand.tmp 7), type := 3, pos := "law.go:57", after := #[], guard := none }) (v := .int .i64 c) rfl (by kernel_rfl) (by kernel_rfl) (by kernel_rfl) (fun _ _ _ h => h) (Or.inl ⟨by rfl, fun w hSw => ?_⟩) hS ?_
        · go_split_ands
          go_simp
        try simp only [Act.put, List.setIfInBounds_toArray, List.set_cons_zero, List.set_cons_succ]
        refine wpAnyH_take (i := 3) (oi := { dst := some 73, op := Go.Op.nilCheck (Go.Operand.tmp 71), type := 0, pos := "law.go:57", after := #[{ on := 1, ground := Go.Ground.data }], guard := none }) (v := .pointer (some ⟨tb, 0, none⟩)) rfl (by kernel_rfl) (by kernel_rfl) (by kernel_rfl) (fun _ _ _ h => h) (Or.inl ⟨by rfl, fun w hSw => ?_⟩) hS ?_
        · go_split_ands
          go_simp
        try simp only [Act.put, List.setIfInBounds_toArray, List.set_cons_zero, List.set_cons_succ]
        refine wpAnyH_take (i := 4) (oi := { dst := some 74, op := Go.Op.fieldAddr 133 (Go.Operand.tmp 73) 2, type := 0, pos := "law.go:57", after := #[{ on := 3, ground := Go.Ground.data }], guard := none }) (v := .pointer (some ⟨tb, 2, none⟩)) rfl (by kernel_rfl) (by kernel_rfl) (by kernel_rfl) (fun _ _ _ h => h) (Or.inl ⟨by rfl, fun w hSw => ?_⟩) hS ?_
        · go_split_ands
          go_simp
        try simp only [Act.put, List.setIfInBounds_toArray, List.set_cons_zero, List.set_cons_succ]
        refine wpAnyH_take (i := 5) (oi := { dst := some 75, op := Go.Op.indexAddr 129 (Go.Operand.tmp 74) (Go.Operand.tmp 72), type := 0, pos := "law.go:57", after := #[{ on := 4, ground := Go.Ground.data }, { on := 2, ground := Go.Ground.data }], guard := none }) (v := .pointer (some ⟨tb, 2 + c, none⟩)) rfl (by kernel_rfl) (by kernel_rfl) (by kernel_rfl) (fun _ _ _ h => h) (Or.inl ⟨by rfl, fun w hSw => ?_⟩) hS ?_
        · go_split_ands
          go_simp
        try simp only [Act.put, List.setIfInBounds_toArray, List.set_cons_zero, List.set_cons_succ]
        refine wpAnyH_take (i := 6) (oi := { dst := some 76, op := Go.Op.load 3 (Go.Operand.tmp 75), type := 3, pos := "law.go:57", after := #[{ on := 5, ground := Go.Ground.data }], guard := none }) (v := .int .i64 2) rfl (by kernel_rfl) (by kernel_rfl) (by kernel_rfl) (fun _ _ _ h => h) (Or.inl ⟨by rfl, fun w hSw => ?_⟩) hS ?_
        · go_split_ands
          go_simp
        try simp only [Act.put, List.setIfInBounds_toArray, List.set_cons_zero, List.set_cons_succ]
        refine wpAnyH_take (i := 7) (oi := { dst := some 77, op := Go.Op.binOp Go.BinOp.eql 3 (Go.Operand.tmp 76) (Go.Operand.const (Go.Value.int Go.IntKind.i64 1)) 3, type := 4, pos := "law.go:57", after := #[{ on := 6, ground := Go.Ground.data }], guard := none }) (v := .bool false) rfl (by kernel_rfl) (by kernel_rfl) (by kernel_rfl) (fun _ _ _ h => h) (Or.inl ⟨by rfl, fun w hSw => ?_⟩) hS ?_
        · go_split_ands
          go_simp
        try simp only [Act.put, List.setIfInBounds_toArray, List.set_cons_zero, List.set_cons_succ]
        refine wpAnyH_take (i := 8) (oi := { dst := some 78, op := Go.Op.binOp Go.BinOp.neq 4 (Go.Operand.tmp 70) (Go.Operand.tmp 77) 4, type := 4, pos := "law.go:57", after := #[{ on := 0, ground := Go.Ground.data }, { on := 7, ground := Go.Ground.data }], guard := none }) (v := .bool false) rfl (by kernel_rfl) (by kernel_rfl) (by kernel_rfl) (fun _ _ _ h => h) (Or.inl ⟨by rfl, fun w hSw => ?_⟩) hS ?_
        · go_split_ands
          go_simp
        try simp only [Act.put, List.setIfInBounds_toArray, List.set_cons_zero, List.set_cons_succ]
        refine wpAnyH_take (i := 9) (oi := { dst := some 79, op := Go.Op.move (Go.Operand.tmp 78), type := 4, pos := "law.go:57", after := #[{ on := 8, ground := Go.Ground.data }], guard := none }) (v := .bool false) rfl (by kernel_rfl) (by kernel_rfl) (by kernel_rfl) (fun _ _ _ h => h) (Or.inl ⟨by rfl, fun w hSw => ?_⟩) hS ?_
        · go_split_ands
          go_simp
        try simp only [Act.put, List.setIfInBounds_toArray, List.set_cons_zero, List.set_cons_succ]
        refine wpAnyH_take (i := 10) (oi := { dst := some 80, op := Go.Op.move (Go.Operand.tmp 11), type := 4, pos := "law.go:57", after := #[{ on := 9, ground := Go.Ground.guard }], guard := some (9, false) }) (v := .bool true) rfl (by kernel_rfl) (by kernel_rfl) (by kernel_rfl) (fun _ _ _ h => h) (Or.inl ⟨by rfl, fun w hSw => ?_⟩) hS ?_
        · go_split_ands
          go_simp
        try simp only [Act.put, List.setIfInBounds_toArray, List.set_cons_zero, List.set_cons_succ]
        refine wpAnyH_take (i := 11) (oi := { dst := some 81, op := Go.Op.move (Go.Operand.tmp 1), type := 83, pos := "law.go:57", after := #[{ on := 9, ground := Go.Ground.guard }], guard := some (9, false) }) (v := .pointer (some ⟨tb, 0, none⟩)) rfl (by kernel_rfl) (by kernel_rfl) (by kernel_rfl) (fun _ _ _ h => h) (Or.inl ⟨by rfl, fun w hSw => ?_⟩) hS ?_
        · go_split_ands
          go_simp
        try simp only [Act.put, List.setIfInBounds_toArray, List.set_cons_zero, List.set_cons_succ]
        refine wpAnyH_take (i := 12) (oi := { dst := some 82, op := Go.Op.move (Go.Operand.tmp 7), type := 3, pos := "law.go:57", after := #[{ on := 9, ground := Go.Ground.guard }], guard := some (9, false) }) (v := .int .i64 c) rfl (by kernel_rfl) (by kernel_rfl) (by kernel_rfl) (fun _ _ _ h => h) (Or.inl ⟨by rfl, fun w hSw => ?_⟩) hS ?_
        · go_split_ands
          go_simp
        try simp only [Act.put, List.setIfInBounds_toArray, List.set_cons_zero, List.set_cons_succ]
        refine wpAnyH_take (i := 13) (oi := { dst := some 83, op := Go.Op.nilCheck (Go.Operand.tmp 81), type := 0, pos := "law.go:57", after := #[{ on := 11, ground := Go.Ground.data }, { on := 9, ground := Go.Ground.guard }], guard := some (9, false) }) (v := .pointer (some ⟨tb, 0, none⟩)) rfl (by kernel_rfl) (by kernel_rfl) (by kernel_rfl) (fun _ _ _ h => h) (Or.inl ⟨by rfl, fun w hSw => ?_⟩) hS ?_
        · go_split_ands
          go_simp
        try simp only [Act.put, List.setIfInBounds_toArray, List.set_cons_zero, List.set_cons_succ]
        refine wpAnyH_take (i := 14) (oi := { dst := some 84, op := Go.Op.fieldAddr 133 (Go.Operand.tmp 83) 2, type := 0, pos := "law.go:57", after := #[{ on := 13, ground := Go.Ground.data }, { on := 9, ground := Go.Ground.guard }], guard := some (9, false) }) (v := .pointer (some ⟨tb, 2, none⟩)) rfl (by kernel_rfl) (by kernel_rfl) (by kernel_rfl) (fun _ _ _ h => h) (Or.inl ⟨by rfl, fun w hSw => ?_⟩) hS ?_
        · go_split_ands
          go_simp
        try simp only [Act.put, List.setIfInBounds_toArray, List.set_cons_zero, List.set_cons_succ]
        refine wpAnyH_take (i := 15) (oi := { dst := some 85, op := Go.Op.indexAddr 129 (Go.Operand.tmp 84) (Go.Operand.tmp 82), type := 0, pos := "law.go:57", after := #[{ on := 14, ground := Go.Ground.data }, { on := 12, ground := Go.Ground.data }, { on := 9, ground := Go.Ground.guard }], guard := some (9, false) }) (v := .pointer (some ⟨tb, 2 + c, none⟩)) rfl (by kernel_rfl) (by kernel_rfl) (by kernel_rfl) (fun _ _ _ h => h) (Or.inl ⟨by rfl, fun w hSw => ?_⟩) hS ?_
        · go_split_ands
          go_simp
        try simp only [Act.put, List.setIfInBounds_toArray, List.set_cons_zero, List.set_cons_succ]
        refine wpAnyH_take (i := 16) (oi := { dst := some 86, op := Go.Op.load 3 (Go.Operand.tmp 85), type := 3, pos := "law.go:57", after := #[{ on := 15, ground := Go.Ground.data }, { on := 9, ground := Go.Ground.guard }], guard := some (9, false) }) (v := .int .i64 2) rfl (by kernel_rfl) (by kernel_rfl) (by kernel_rfl) (fun _ _ _ h => h) (Or.inl ⟨by rfl, fun w hSw => ?_⟩) hS ?_
        · go_split_ands
          go_simp
        try simp only [Act.put, List.setIfInBounds_toArray, List.set_cons_zero, List.set_cons_succ]
        refine wpAnyH_take (i := 17) (oi := { dst := some 87, op := Go.Op.binOp Go.BinOp.eql 3 (Go.Operand.tmp 86) (Go.Operand.const (Go.Value.int Go.IntKind.i64 2)) 3, type := 4, pos := "law.go:57", after := #[{ on := 16, ground := Go.Ground.data }, { on := 9, ground := Go.Ground.guard }], guard := some (9, false) }) (v := .bool true) rfl (by kernel_rfl) (by kernel_rfl) (by kernel_rfl) (fun _ _ _ h => h) (Or.inl ⟨by rfl, fun w hSw => ?_⟩) hS ?_
        · go_split_ands
          go_simp
        try simp only [Act.put, List.setIfInBounds_toArray, List.set_cons_zero, List.set_cons_succ]
        refine wpAnyH_take (i := 18) (oi := { dst := some 88, op := Go.Op.binOp Go.BinOp.neq 4 (Go.Operand.tmp 80) (Go.Operand.tmp 87) 4, type := 4, pos := "law.go:57", after := #[{ on := 10, ground := Go.Ground.data }, { on := 17, ground := Go.Ground.data }, { on := 9, ground := Go.Ground.guard }], guard := some (9, false) }) (v := .bool false) rfl (by kernel_rfl) (by kernel_rfl) (by kernel_rfl) (fun _ _ _ h => h) (Or.inl ⟨by rfl, fun w hSw => ?_⟩) hS ?_
        · go_split_ands
          go_simp
        try simp only [Act.put, List.setIfInBounds_toArray, List.set_cons_zero, List.set_cons_succ]
        refine wpAnyH_take (i := 19) (oi := { dst := some 89, op := Go.Op.pick (Go.Operand.tmp 79) (Go.Operand.const (Go.Value.bool true)) (Go.Operand.tmp 88), type := 4, pos := "law.go:57", after := #[{ on := 9, ground := Go.Ground.data }, { on := 18, ground := Go.Ground.data }], guard := none }) (v := .bool false) rfl (by kernel_rfl) (by kernel_rfl) (by kernel_rfl) (fun _ _ _ h => h) (Or.inl ⟨by rfl, fun w hSw => ?_⟩) hS ?_
        · go_split_ands
          go_simp
        try simp only [Act.put, List.setIfInBounds_toArray, List.set_cons_zero, List.set_cons_succ]
        refine wpAnyH_take (i := 20) (oi := { dst := some 90, op := Go.Op.move (Go.Operand.tmp 89), type := 4, pos := "law.go:57", after := #[{ on := 19, ground := Go.Ground.data }, { on := 9, ground := Go.Ground.chain }], guard := none }) (v := .bool false) rfl (by kernel_rfl) (by kernel_rfl) (by kernel_rfl) (fun _ _ _ h => h) (Or.inl ⟨by rfl, fun w hSw => ?_⟩) hS ?_
        · go_split_ands
          go_simp
        try simp only [Act.put, List.setIfInBounds_toArray, List.set_cons_zero, List.set_cons_succ]
        refine wpAnyH_take (i := 21) (oi := { dst := some 91, op := Go.Op.move (Go.Operand.tmp 9), type := 4, pos := "law.go:57", after := #[{ on := 20, ground := Go.Ground.guard }], guard := some (20, false) }) (v := .bool false) rfl (by kernel_rfl) (by kernel_rfl) (by kernel_rfl) (fun _ _ _ h => h) (Or.inl ⟨by rfl, fun w hSw => ?_⟩) hS ?_
        · go_split_ands
          go_simp
        try simp only [Act.put, List.setIfInBounds_toArray, List.set_cons_zero, List.set_cons_succ]
        refine wpAnyH_take (i := 22) (oi := { dst := some 92, op := Go.Op.move (Go.Operand.tmp 91), type := 4, pos := "law.go:57", after := #[{ on := 21, ground := Go.Ground.data }, { on := 20, ground := Go.Ground.chain }, { on := 20, ground := Go.Ground.guard }], guard := some (20, false) }) (v := .bool false) rfl (by kernel_rfl) (by kernel_rfl) (by kernel_rfl) (fun _ _ _ h => h) (Or.inl ⟨by rfl, fun w hSw => ?_⟩) hS ?_
        · go_split_ands
          go_simp
        try simp only [Act.put, List.setIfInBounds_toArray, List.set_cons_zero, List.set_cons_succ]
        refine wpAnyH_take (i := 23) (oi := { dst := some 93, op := Go.Op.load 34 (Go.Operand.tmp 8), type := 34, pos := "law.go:57", after := #[{ on := 22, ground := Go.Ground.guard }], guard := some (22, true) }) (v := undef) rfl (by kernel_rfl) (by kernel_rfl) (by kernel_rfl) (fun _ _ _ h => h) (Or.inr ⟨by rfl, rfl⟩) hS ?_
        try simp only [Act.put, List.setIfInBounds_toArray, List.set_cons_zero, List.set_cons_succ]
        refine wpAnyH_take (i := 24) (oi := { dst := some 94, op := Go.Op.move (Go.Operand.tmp 1), type := 83, pos := "law.go:57", after := #[{ on := 22, ground := Go.Ground.guard }], guard := some (22, true) }) (v := undef) rfl (by kernel_rfl) (by kernel_rfl) (by kernel_rfl) (fun _ _ _ h => h) (Or.inr ⟨by rfl, rfl⟩) hS ?_
        try simp only [Act.put, List.setIfInBounds_toArray, List.set_cons_zero, List.set_cons_succ]
        refine wpAnyH_take (i := 25) (oi := { dst := some 95, op := Go.Op.move (Go.Operand.tmp 7), type := 3, pos := "law.go:57", after := #[{ on := 22, ground := Go.Ground.guard }], guard := some (22, true) }) (v := undef) rfl (by kernel_rfl) (by kernel_rfl) (by kernel_rfl) (fun _ _ _ h => h) (Or.inr ⟨by rfl, rfl⟩) hS ?_
        try simp only [Act.put, List.setIfInBounds_toArray, List.set_cons_zero, List.set_cons_succ]
        refine wpAnyH_take (i := 26) (oi := { dst := some 96, op := Go.Op.nilCheck (Go.Operand.tmp 94), type := 0, pos := "law.go:57", after := #[{ on := 24, ground := Go.Ground.data }, { on := 22, ground := Go.Ground.guard }], guard := some (22, true) }) (v := undef) rfl (by kernel_rfl) (by kernel_rfl) (by kernel_rfl) (fun _ _ _ h => h) (Or.inr ⟨by rfl, rfl⟩) hS ?_
        try simp only [Act.put, List.setIfInBounds_toArray, List.set_cons_zero, List.set_cons_succ]
        refine wpAnyH_take (i := 27) (oi := { dst := some 97, op := Go.Op.fieldAddr 133 (Go.Operand.tmp 96) 3, type := 0, pos := "law.go:57", after := #[{ on := 26, ground := Go.Ground.data }, { on := 22, ground := Go.Ground.guard }], guard := some (22, true) }) (v := undef) rfl (by kernel_rfl) (by kernel_rfl) (by kernel_rfl) (fun _ _ _ h => h) (Or.inr ⟨by rfl, rfl⟩) hS ?_
        try simp only [Act.put, List.setIfInBounds_toArray, List.set_cons_zero, List.set_cons_succ]
        refine wpAnyH_take (i := 28) (oi := { dst := some 98, op := Go.Op.indexAddr 130 (Go.Operand.tmp 97) (Go.Operand.tmp 95), type := 0, pos := "law.go:57", after := #[{ on := 27, ground := Go.Ground.data }, { on := 25, ground := Go.Ground.data }, { on := 22, ground := Go.Ground.guard }], guard := some (22, true) }) (v := undef) rfl (by kernel_rfl) (by kernel_rfl) (by kernel_rfl) (fun _ _ _ h => h) (Or.inr ⟨by rfl, rfl⟩) hS ?_
        try simp only [Act.put, List.setIfInBounds_toArray, List.set_cons_zero, List.set_cons_succ]
        refine wpAnyH_take (i := 29) (oi := { dst := some 99, op := Go.Op.load 45 (Go.Operand.tmp 98), type := 45, pos := "law.go:57", after := #[{ on := 28, ground := Go.Ground.data }, { on := 22, ground := Go.Ground.guard }], guard := some (22, true) }) (v := undef) rfl (by kernel_rfl) (by kernel_rfl) (by kernel_rfl) (fun _ _ _ h => h) (Or.inr ⟨by rfl, rfl⟩) hS ?_
        try simp only [Act.put, List.setIfInBounds_toArray, List.set_cons_zero, List.set_cons_succ]
        refine wpAnyH_take (i := 30) (oi := { dst := some 100, op := Go.Op.binOp Go.BinOp.neq 45 (Go.Operand.tmp 93) (Go.Operand.tmp 99) 45, type := 4, pos := "law.go:57", after := #[{ on := 23, ground := Go.Ground.data }, { on := 29, ground := Go.Ground.data }, { on := 22, ground := Go.Ground.guard }], guard := some (22, true) }) (v := undef) rfl (by kernel_rfl) (by kernel_rfl) (by kernel_rfl) (fun _ _ _ h => h) (Or.inr ⟨by rfl, rfl⟩) hS ?_
        try simp only [Act.put, List.setIfInBounds_toArray, List.set_cons_zero, List.set_cons_succ]
        refine wpAnyH_take (i := 31) (oi := { dst := some 101, op := Go.Op.pick (Go.Operand.tmp 92) (Go.Operand.tmp 100) (Go.Operand.const (Go.Value.bool false)), type := 4, pos := "law.go:57", after := #[{ on := 22, ground := Go.Ground.data }, { on := 30, ground := Go.Ground.data }, { on := 20, ground := Go.Ground.guard }], guard := some (20, false) }) (v := .bool false) rfl (by kernel_rfl) (by kernel_rfl) (by kernel_rfl) (fun _ _ _ h => h) (Or.inl ⟨by rfl, fun w hSw => ?_⟩) hS ?_
        · go_split_ands
          go_simp
        try simp only [Act.put, List.setIfInBounds_toArray, List.set_cons_zero, List.set_cons_succ]
        refine wpAnyH_take (i := 32) (oi := { dst := some 102, op := Go.Op.pick (Go.Operand.tmp 90) (Go.Operand.const (Go.Value.bool true)) (Go.Operand.tmp 101), type := 4, pos := "law.go:57", after := #[{ on := 20, ground := Go.Ground.data }, { on := 31, ground := Go.Ground.data }], guard := none }) (v := .bool false) rfl (by kernel_rfl) (by kernel_rfl) (by kernel_rfl) (fun _ _ _ h => h) (Or.inl ⟨by rfl, fun w hSw => ?_⟩) hS ?_
        · go_split_ands
          go_simp
        try simp only [Act.put, List.setIfInBounds_toArray, List.set_cons_zero, List.set_cons_succ]
        refine wpAnyH_take (i := 33) (oi := { dst := some 103, op := Go.Op.move (Go.Operand.tmp 102), type := 4, pos := "law.go:57", after := #[{ on := 32, ground := Go.Ground.data }, { on := 22, ground := Go.Ground.chain }], guard := none }) (v := .bool false) rfl (by kernel_rfl) (by kernel_rfl) (by kernel_rfl) (fun _ _ _ h => h) (Or.inl ⟨by rfl, fun w hSw => ?_⟩) hS ?_
        · go_split_ands
          go_simp
        try simp only [Act.put, List.setIfInBounds_toArray, List.set_cons_zero, List.set_cons_succ]
        refine wpAnyH_take (i := 34) (oi := { dst := some 104, op := Go.Op.move (Go.Operand.tmp 11), type := 4, pos := "law.go:57", after := #[{ on := 33, ground := Go.Ground.guard }], guard := some (33, false) }) (v := .bool true) rfl (by kernel_rfl) (by kernel_rfl) (by kernel_rfl) (fun _ _ _ h => h) (Or.inl ⟨by rfl, fun w hSw => ?_⟩) hS ?_
        · go_split_ands
          go_simp
        try simp only [Act.put, List.setIfInBounds_toArray, List.set_cons_zero, List.set_cons_succ]
        refine wpAnyH_take (i := 35) (oi := { dst := some 105, op := Go.Op.move (Go.Operand.tmp 104), type := 4, pos := "law.go:57", after := #[{ on := 34, ground := Go.Ground.data }, { on := 33, ground := Go.Ground.chain }, { on := 33, ground := Go.Ground.guard }], guard := some (33, false) }) (v := .bool true) rfl (by kernel_rfl) (by kernel_rfl) (by kernel_rfl) (fun _ _ _ h => h) (Or.inl ⟨by rfl, fun w hSw => ?_⟩) hS ?_
        · go_split_ands
          go_simp
        try simp only [Act.put, List.setIfInBounds_toArray, List.set_cons_zero, List.set_cons_succ]
        refine wpAnyH_take (i := 36) (oi := { dst := some 106, op := Go.Op.move (Go.Operand.tmp 10), type := 30, pos := "law.go:57", after := #[{ on := 35, ground := Go.Ground.guard }], guard := some (35, true) }) (v := .pointer (some ⟨k, 0, none⟩)) rfl (by kernel_rfl) (by kernel_rfl) (by kernel_rfl) (fun _ _ _ h => h) (Or.inl ⟨by rfl, fun w hSw => ?_⟩) hS ?_
        · go_split_ands
          go_simp
        try simp only [Act.put, List.setIfInBounds_toArray, List.set_cons_zero, List.set_cons_succ]
        refine wpAnyH_take (i := 37) (oi := { dst := some 107, op := Go.Op.move (Go.Operand.tmp 1), type := 83, pos := "law.go:57", after := #[{ on := 35, ground := Go.Ground.guard }], guard := some (35, true) }) (v := .pointer (some ⟨tb, 0, none⟩)) rfl (by kernel_rfl) (by kernel_rfl) (by kernel_rfl) (fun _ _ _ h => h) (Or.inl ⟨by rfl, fun w hSw => ?_⟩) hS ?_
        · go_split_ands
          go_simp
        try simp only [Act.put, List.setIfInBounds_toArray, List.set_cons_zero, List.set_cons_succ]
        refine wpAnyH_take (i := 38) (oi := { dst := some 108, op := Go.Op.move (Go.Operand.tmp 7), type := 3, pos := "law.go:57", after := #[{ on := 35, ground := Go.Ground.guard }], guard := some (35, true) }) (v := .int .i64 c) rfl (by kernel_rfl) (by kernel_rfl) (by kernel_rfl) (fun _ _ _ h => h) (Or.inl ⟨by rfl, fun w hSw => ?_⟩) hS ?_
        · go_split_ands
          go_simp
        try simp only [Act.put, List.setIfInBounds_toArray, List.set_cons_zero, List.set_cons_succ]
        refine wpAnyH_take (i := 39) (oi := { dst := some 109, op := Go.Op.nilCheck (Go.Operand.tmp 107), type := 0, pos := "law.go:57", after := #[{ on := 37, ground := Go.Ground.data }, { on := 35, ground := Go.Ground.guard }], guard := some (35, true) }) (v := .pointer (some ⟨tb, 0, none⟩)) rfl (by kernel_rfl) (by kernel_rfl) (by kernel_rfl) (fun _ _ _ h => h) (Or.inl ⟨by rfl, fun w hSw => ?_⟩) hS ?_
        · go_split_ands
          go_simp
        try simp only [Act.put, List.setIfInBounds_toArray, List.set_cons_zero, List.set_cons_succ]
        refine wpAnyH_take (i := 40) (oi := { dst := some 110, op := Go.Op.fieldAddr 133 (Go.Operand.tmp 109) 4, type := 0, pos := "law.go:57", after := #[{ on := 39, ground := Go.Ground.data }, { on := 35, ground := Go.Ground.guard }], guard := some (35, true) }) (v := .pointer (some ⟨tb, 98, none⟩)) rfl (by kernel_rfl) (by kernel_rfl) (by kernel_rfl) (fun _ _ _ h => h) (Or.inl ⟨by rfl, fun w hSw => ?_⟩) hS ?_
        · go_split_ands
          go_simp
        try simp only [Act.put, List.setIfInBounds_toArray, List.set_cons_zero, List.set_cons_succ]
        refine wpAnyH_take (i := 41) (oi := { dst := some 111, op := Go.Op.indexAddr 131 (Go.Operand.tmp 110) (Go.Operand.tmp 108), type := 0, pos := "law.go:57", after := #[{ on := 40, ground := Go.Ground.data }, { on := 38, ground := Go.Ground.data }, { on := 35, ground := Go.Ground.guard }], guard := some (35, true) }) (v := .pointer (some ⟨tb, 98 + c, none⟩)) rfl (by kernel_rfl) (by kernel_rfl) (by kernel_rfl) (fun _ _ _ h => h) (Or.inl ⟨by rfl, fun w hSw => ?_⟩) hS ?_
        · go_split_ands
          go_simp
        try simp only [Act.put, List.setIfInBounds_toArray, List.set_cons_zero, List.set_cons_succ]
        refine wpAnyH_take (i := 42) (oi := { dst := some 112, op := Go.Op.load 83 (Go.Operand.tmp 111), type := 83, pos := "law.go:57", after := #[{ on := 41, ground := Go.Ground.data }, { on := 35, ground := Go.Ground.guard }], guard := some (35, true) }) (v := .pointer (some ⟨kb, 0, none⟩)) rfl (by kernel_rfl) (by kernel_rfl) (by kernel_rfl) (fun _ _ _ h => h) (Or.inl ⟨by rfl, fun w hSw => ?_⟩) hS ?_
        · go_split_ands
          go_simp
        try simp only [Act.put, List.setIfInBounds_toArray, List.set_cons_zero, List.set_cons_succ]
        refine wpAnyH_ready (rs := [43]) (by kernel_rfl) (by simp) ?_
        refine AllReadyH.cons (o := { dst := some 113, op := Go.Op.call { callee := Go.Callee.value (Go.Operand.func 35), args := #[Go.Operand.tmp 106, Go.Operand.tmp 112], argTypes := #[30, 83] }, type := 4, pos := "law.go:57", after := #[{ on := 36, ground := Go.Ground.data }, { on := 42, ground := Go.Ground.data }, { on := 35, ground := Go.Ground.chain }, { on := 35, ground := Go.Ground.guard }], guard := some (35, true) }) rfl (fun K hK => ?_) AllReadyH.nil
        go_simp
        refine (kl _ hBd).mono ?_
        rintro e w5 ⟨rfl, hB5⟩
        go_wp2_with fail
        have hS5 := keepL hS hB5
        refine hK.out _ _ hS5 (fun _ => ?_)
        clear hK K hS
        try simp only [Act.put, List.setIfInBounds_toArray, List.set_cons_zero, List.set_cons_succ]
        have hS := hS5
        refine wpAnyH_take (i := 44) (oi := { dst := some 114, op := Go.Op.unOp Go.UnOp.not 4 (Go.Operand.tmp 113), type := 4, pos := "law.go:57", after := #[{ on := 43, ground := Go.Ground.data }, { on := 35, ground := Go.Ground.guard }], guard := some (35, true) }) (v := .bool false) rfl (by kernel_rfl) (by kernel_rfl) (by kernel_rfl) (fun _ _ _ h => h) (Or.inl ⟨by rfl, fun w hSw => ?_⟩) hS ?_
        · go_split_ands
          go_simp
        try simp only [Act.put, List.setIfInBounds_toArray, List.set_cons_zero, List.set_cons_succ]
        refine wpAnyH_take (i := 45) (oi := { dst := some 115, op := Go.Op.pick (Go.Operand.tmp 105) (Go.Operand.tmp 114) (Go.Operand.const (Go.Value.bool false)), type := 4, pos := "law.go:57", after := #[{ on := 35, ground := Go.Ground.data }, { on := 44, ground := Go.Ground.data }, { on := 33, ground := Go.Ground.guard }], guard := some (33, false) }) (v := .bool false) rfl (by kernel_rfl) (by kernel_rfl) (by kernel_rfl) (fun _ _ _ h => h) (Or.inl ⟨by rfl, fun w hSw => ?_⟩) hS ?_
        · go_split_ands
          go_simp
        try simp only [Act.put, List.setIfInBounds_toArray, List.set_cons_zero, List.set_cons_succ]
        refine wpAnyH_take (i := 46) (oi := { dst := some 116, op := Go.Op.pick (Go.Operand.tmp 103) (Go.Operand.const (Go.Value.bool true)) (Go.Operand.tmp 115), type := 4, pos := "law.go:57", after := #[{ on := 33, ground := Go.Ground.data }, { on := 45, ground := Go.Ground.data }], guard := none }) (v := .bool false) rfl (by kernel_rfl) (by kernel_rfl) (by kernel_rfl) (fun _ _ _ h => h) (Or.inl ⟨by rfl, fun w hSw => ?_⟩) hS ?_
        · go_split_ands
          go_simp
        try simp only [Act.put, List.setIfInBounds_toArray, List.set_cons_zero, List.set_cons_succ]
        refine wpAnyH_done (by kernel_rfl) ?_ _
        have hBc := hBd.trans (hB5.mono hBd.size)
        go_wp2_with fail
        exact ⟨⟨c + 1, by omega, by go_num, hBc⟩, by simp [intOf]; omega⟩
    · obtain rfl : c = 32 := by omega
      go_wp2_with fail
      go_ret
      exact ⟨rfl, hB⟩
theorem like_any (H : ByteArray → Nat) (N X : Nat → Prop) (tk : Option Nat) (lv : Bool) (base : Nat) : ∀ (n l b tb : Nat) (ps : List Pr) (F : Nat → Prop) (w : World), Trie H X tk lv base w n l b ps F → TrieR H N w n l tb ps → ps.length ≤ 800 → Calls Tryz.prog 35 #[.pointer (some ⟨b, 0, none⟩), .pointer (some ⟨tb, 0, none⟩)] w (TrueB w)
  | 0, l, b, tb, ps, F, w, h, hr, hn => like_zero H N X tk lv base l l b tb ps F w h hr hn
  | n + 1, l, b, tb, ps, F, w, h, hr, hn => like_succ H N X tk lv base n (like_any H N X tk lv base n) l b tb ps F w h hr hn
end Go.Proofs.YtfmbikmpobieoaaGreat
/- The law's trie: a node has just the document's shape. -/
namespace Go.Proofs.YtfmbikmpobieoaaGreat
open Go.RowKit Go.Lib
set_option linter.unusedVariables false
set_option linter.unusedSimpArgs false
set_option maxRecDepth 100000
attribute [local irreducible] cnt
theorem hz_lt (k0 k1 m : Int) (k : ByteArray) : hz k0 k1 m k < 18446744073709551616 := (hz_int k0 k1 m k).2
theorem refOf_any (k0 k1 m : Int) (A : Option Addr) (c : Nat) (xs : List Pr) (w : World) (h0 : U64 k0) (h1 : U64 k1) (hR : Rd w A xs) (hn : xs.length ≤ 700) (hz1 : ∀ x ∈ xs, x.1.size ≤ 1000) :
    Calls Tryz.prog 36 #[.agg #[.int .u64 k0, .int .u64 k1, .int .u64 m], .slice A xs.length c, .int .i64 (0 : Nat)] w (RetB fun b w1 => TrieR (hz k0 k1 m) (fun _ => False) w1 13 0 b xs ∧ Below w.heap.size w w1) := by
  refine Of_any _ k0 k1 m A c 0 xs w h0 h1 hR hn hz1 fun v w' hB hU => ?_
  refine (of_any (hz k0 k1 m) (hz_lt k0 k1 m) 13 0 rfl (fun _ => False) A c xs w.heap.size v w' (hR.below hB) (fun _ _ h => h) (fun _ h => h.elim) hn hU).mono ?_
  rintro e w1 ⟨b, rfl, hT, hB1⟩
  exact ⟨b, rfl, b, rfl, hT, hB.trans (hB1.mono hB.size)⟩
set_option maxHeartbeats 2000000 in
theorem trie_any (k0 k1 m : Int) (X : Nat → Prop) (tk : Option Nat) (lv : Bool) (base b : Nat) (ps : List Pr) (F : Nat → Prop) (A : Option Addr) (c : Nat) (w : World) (h : Trie (hz k0 k1 m) X tk lv base w 13 0 b ps F) (h0 : U64 k0) (h1 : U64 k1) (hR : Rd w A ps) (hn : ps.length ≤ 700) (hz1 : ∀ x ∈ ps, x.1.size ≤ 1000) :
    Calls Tryz.prog 18 #[.agg #[.int .u64 k0, .int .u64 k1, .int .u64 m], .pointer (some ⟨b, 0, none⟩), .slice A ps.length c] w (TrueB w) := by
  have hB0 := (Below.refl _ w).alloc (Nat.le_refl _) (.cells #[.int .u64 k0, .int .u64 k1, .int .u64 m] 26)
  have HT := Lib.hid h
  have HR := Lib.hid hR
  clear h hR
  go_enter Tryz.func18, Tryz.ntmps18
  go_wp2_with fail
  refine (own_any k0 k1 m _).mono ?_
  rintro e w1 ⟨rfl, hB1⟩
  have hB01 := hB0.trans (hB1.mono hB0.size)
  have ko := refOf_any k0 k1 m A c ps w1 h0 h1 (HR.out.below hB01) hn hz1
  clear hB0 hB1
  go_wp2_with fail
  refine ko.mono ?_
  rintro e w2 ⟨tb, rfl, hTR, hB2⟩
  have hB02 := hB01.trans (hB2.mono hB01.size)
  have kl := like_any (hz k0 k1 m) (fun _ => False) X tk lv base 13 0 b tb ps F w2 (HT.out.below hB02) hTR (by omega)
  clear ko hB01 hB2 hTR
  go_wp2_with fail
  refine kl.mono ?_
  rintro e w3 ⟨rfl, hB3⟩
  have hB03 := hB02.trans (hB3.mono hB02.size)
  have kn := len_trie (hz k0 k1 m) X tk lv base 13 0 b ps F w3 (HT.out.below hB03) (by omega) (by omega)
  clear kl hB02 hB3
  go_wp2_with fail
  refine kn.mono ?_
  rintro e w4 ⟨rfl, hB4⟩
  have hB04 := hB03.trans (hB4.mono hB03.size)
  clear kn hB03 hB4
  go_wp2_with fail
  go_ret
  exact ⟨rfl, hB04⟩
end Go.Proofs.YtfmbikmpobieoaaGreat
/- Put and Drop without a token; the document's example. -/
namespace Go.Proofs.YtfmbikmpobieoaaGreat
open Go.RowKit Go.Lib
set_option linter.unusedVariables false
set_option linter.unusedSimpArgs false
set_option maxRecDepth 100000
attribute [local irreducible] cnt
/-- a trie that nobody's token may change -/
def TP (k0 k1 m : Int) (base : Nat) (w : World) (b : Nat) (ps : List Pr) : Prop := Trie (hz k0 k1 m) (fun _ => False) none false base w 13 0 b ps (fun _ => False)
def hv3 (k0 k1 m : Int) : Value := .agg #[.int .u64 k0, .int .u64 k1, .int .u64 m]
section
variable {k0 k1 m : Int} {base : Nat} {w w' : World} {b : Nat} {ps : List Pr}
theorem TP.below (h : TP k0 k1 m base w b ps) (hb : Below w.heap.size w w') : TP k0 k1 m base w' b ps := Trie.below h hb
theorem cx_nil (hb : base ≤ w.heap.size) : Cx (fun _ => False) none false base w := ⟨TV.nil _, fun h => by simp at h, fun _ _ _ h => h, hb, fun h => by simp at h⟩
theorem ChPost.plain {b1 : Nat} (h : ChPost (hz k0 k1 m) (fun _ => False) none false base 13 0 ps (fun _ => False) w b1 w') : TP k0 k1 m base w' b1 ps ∧ Below w.heap.size w w' := by
  obtain ⟨F', hT, hK, -, -⟩ := h
  exact ⟨Trie.forget _ _ _ _ _ hT none, hK.below fun _ h => h⟩
theorem put_plain (p : Pr) (h0 : U64 k0) (h1 : U64 k1) (hs : p.1.size ≤ 1000) (hb : base ≤ w.heap.size) (h : TP k0 k1 m base w b ps) (hr : RisesL ps) (hn : ps.length ≤ 700) (hz1 : ∀ x ∈ ps, x.1.size ≤ 1000) :
    Calls Tryz.prog 15 #[.agg #[.int .u64 k0, .int .u64 k1, .int .u64 m], .pointer none, .pointer (some ⟨b, 0, none⟩), .agg #[.string p.1, .string p.2]] w fun e w' => ∃ b', e = .returned (.tuple #[.pointer (some ⟨b', 0, none⟩), .bool (getK ps p.1).isNone]) ∧ TP k0 k1 m base w' b' (putK ps p) ∧ Below w.heap.size w w' ∧ (getK ps p.1 = some p.2 → b' = b) := by
  cases hg : getK ps p.1 with
  | none =>
    refine (Put_none k0 k1 m _ none false base none p.1 p.2 b ps _ w rfl h0 h1 hs (cx_nil hb) h hr hn hz1 hg).mono ?_
    rintro e w1 ⟨b1, rfl, hP⟩
    exact ⟨b1, rfl, hP.plain.1, hP.plain.2, fun h => by simp at h⟩
  | some v =>
    by_cases hv : v = p.2
    · subst hv
      refine (Put_same k0 k1 m _ none false base none p.1 p.2 b ps _ w rfl h0 h1 hs h hn hg).mono ?_
      rintro e w1 ⟨rfl, hB⟩
      exact ⟨b, rfl, by rw [put_same hr hg]; exact h.below hB, hB, fun _ => rfl⟩
    · refine (Put_other k0 k1 m _ none false base none p.1 p.2 b ps _ w rfl h0 h1 hs (cx_nil hb) h hr hn hz1 v hg hv).mono ?_
      rintro e w1 ⟨b1, rfl, hP⟩
      exact ⟨b1, rfl, hP.plain.1, hP.plain.2, fun h => absurd (Option.some.inj h) hv⟩
theorem drop_plain (k : ByteArray) (h0 : U64 k0) (h1 : U64 k1) (hs : k.size ≤ 1000) (hb : base ≤ w.heap.size) (h : TP k0 k1 m base w b ps) (hr : RisesL ps) (hn : ps.length ≤ 700) :
    Calls Tryz.prog 13 #[.agg #[.int .u64 k0, .int .u64 k1, .int .u64 m], .pointer none, .pointer (some ⟨b, 0, none⟩), .string k] w fun e w' => ∃ b', e = .returned (.tuple #[.pointer (some ⟨b', 0, none⟩), .bool (getK ps k).isSome]) ∧ TP k0 k1 m base w' b' (dropK ps k) ∧ Below w.heap.size w w' ∧ (getK ps k = none → b' = b) := by
  cases hg : getK ps k with
  | none =>
    refine (Drop_none k0 k1 m _ none false base none k b ps _ w rfl h0 h1 hs h hn hg).mono ?_
    rintro e w1 ⟨rfl, hB⟩
    exact ⟨b, rfl, by rw [drop_none hg]; exact h.below hB, hB, fun _ => rfl⟩
  | some v =>
    refine (Drop_there k0 k1 m _ none false base none k b ps _ w rfl h0 h1 hs (cx_nil hb) h hr hn v hg).mono ?_
    rintro e w1 ⟨b1, rfl, hP⟩
    exact ⟨b1, rfl, hP.plain.1, hP.plain.2, fun h => by simp at h⟩
theorem get_plain (k : ByteArray) (h0 : U64 k0) (h1 : U64 k1) (hs : k.size ≤ 1000) (h : TP k0 k1 m base w b ps) (hn : ps.length ≤ 800) :
    Calls Tryz.prog 17 #[.agg #[.int .u64 k0, .int .u64 k1, .int .u64 m], .pointer (some ⟨b, 0, none⟩), .string k] w (GetPost (getK ps k) w) := get_trie k0 k1 m _ none false base b ps _ k w h h0 h1 hs hn
theorem empty_plain (k0 k1 m : Int) (hb : base ≤ w.heap.size) : Calls Tryz.prog 10 #[] w (RetB fun b w' => TP k0 k1 m base w' b [] ∧ Below w.heap.size w w') := empty_any _ base w hb
theorem len_plain (h : TP k0 k1 m base w b ps) (hn : ps.length ≤ 800) : Calls Tryz.prog 25 #[.pointer (some ⟨b, 0, none⟩)] w fun e w' => e = .returned (.int .i64 (ps.length : Nat)) ∧ Below w.heap.size w w' := len_trie _ _ _ _ base 13 0 b ps _ w h hn (Nat.le_refl _)
theorem trie_plain {A : Option Addr} {c : Nat} (h : TP k0 k1 m base w b ps) (h0 : U64 k0) (h1 : U64 k1) (hR : Rd w A ps) (hn : ps.length ≤ 700) (hz1 : ∀ x ∈ ps, x.1.size ≤ 1000) :
    Calls Tryz.prog 18 #[.agg #[.int .u64 k0, .int .u64 k1, .int .u64 m], .pointer (some ⟨b, 0, none⟩), .slice A ps.length c] w (TrueB w) := trie_any k0 k1 m _ none false base b ps _ A c w h h0 h1 hR hn hz1
end
theorem rises_nil : RisesL [] := List.Pairwise.nil
theorem rises_one (p : Pr) : RisesL [p] := List.pairwise_singleton _ _
theorem put_empty (p : Pr) : putK [] p = [p] := rfl
def prA : Pr := (⟨#[97]⟩, ⟨#[49]⟩)
def prB : Pr := (⟨#[98]⟩, ⟨#[50]⟩)
theorem getA : getK [prA] prB.1 = none := by decide
theorem lenAB : (putK [prA] prB).length = 2 := put_two (by decide)
theorem u64_zero : U64 0 := ⟨by decide, by decide⟩
theorem get_put {p : Pr} {ps : List Pr} (hr : RisesL (putK ps p)) : getK (putK ps p) p.1 = some p.2 := getK_of_mem hr (put_sets.2 (.inl rfl))
set_option maxHeartbeats 4000000 in
theorem awake_any (w : World) : Calls Tryz.prog 9 #[] w (TrueB w) := by
  go_enter Tryz.func9, Tryz.ntmps9
  go_wp2_with fail
  refine (Sip.full_any 0 0 _).mono ?_
  rintro e w1 ⟨rfl, hB1⟩
  go_upto_region 2 with (fail)
  have hBa := hB1.alloc hB1.size (.cells #[.int .u64 0, .int .u64 0, .int .u64 18446744073709551615] 26)
  have hnew := Blk.new w1 26 #[.int .u64 0, .int .u64 0, .int .u64 18446744073709551615]
  generalize w1.alloc (.cells #[.int .u64 0, .int .u64 0, .int .u64 18446744073709551615] 26) = W at *
  generalize (18446744073709551615 : Int) = MX at *
  generalize w1.heap.size = N0 at *
  have hS : (fun w' : World => w'.cell? ⟨N0, 0, none⟩ = some (.int .u64 0) ∧ w'.cell? ⟨N0, 1, none⟩ = some (.int .u64 0) ∧ w'.cell? ⟨N0, 2, none⟩ = some (.int .u64 MX)) W.drew := ⟨hnew.cell 0, hnew.cell 1, hnew.cell 2⟩
  have hBd : Below w.heap.size w W.drew := hBa.drew
  have ke := empty_plain (w := W.drew) (base := w.heap.size) 0 0 MX hBd.size
  clear hB1 hBa hnew
  go_region_held3 (fun w' : World => w'.cell? ⟨N0, 0, none⟩ = some (.int .u64 0) ∧ w'.cell? ⟨N0, 1, none⟩ = some (.int .u64 0) ∧ w'.cell? ⟨N0, 2, none⟩ = some (.int .u64 MX)) (first | exact hS | exact keepH (by assumption) hB2 | exact keepH (by assumption) hB3) (first
    | (have _g := hT2; clear _g; go_at_call 15; refine (put_plain (k0 := 0) (k1 := 0) (m := MX) (base := w.heap.size) (w := w2) (ps := []) prA u64_zero u64_zero (by decide) (Nat.le_trans hBd.size hB2.size) hT2 rises_nil (by simp) (by simp)).mono ?_; rintro e w3 ⟨b3, rfl, hT3, hB3, -⟩)
    | (go_at_call 10; refine ke.mono ?_; rintro e w2 ⟨b2, rfl, hT2, hB2⟩))
  obtain ⟨q0, q1, q2⟩ : w3.cell? ⟨N0, 0, none⟩ = some (.int .u64 0) ∧ w3.cell? ⟨N0, 1, none⟩ = some (.int .u64 0) ∧ w3.cell? ⟨N0, 2, none⟩ = some (.int .u64 MX) := by assumption
  have hq : (fun w' : World => w'.cell? ⟨N0, 0, none⟩ = some (.int .u64 0) ∧ w'.cell? ⟨N0, 1, none⟩ = some (.int .u64 0) ∧ w'.cell? ⟨N0, 2, none⟩ = some (.int .u64 MX)) w3 := ⟨q0, q1, q2⟩
  have hBw3 := hBd.trans ((hB2.trans (hB3.mono hB2.size)).mono hBd.size)
  rw [put_empty] at hT3
  clear hS ke hT2 hB2 hB3 hBd
  have kp := put_plain (k0 := 0) (k1 := 0) (m := MX) (base := w.heap.size) (w := w3) (ps := [prA]) prB u64_zero u64_zero (by decide) hBw3.size hT3 (rises_one _) (by simp) (by simp; decide)
  rw [getA] at kp
  simp only [prB] at kp
  go_wp2_with fail
  refine kp.mono ?_
  rintro e w4 ⟨b4, rfl, hT4, hB4, -⟩
  obtain ⟨r0, r1, r2⟩ := keepH hq hB4
  have hBw4 := hBw3.trans (hB4.mono hBw3.size)
  have hr4 : RisesL (putK [prA] prB) := put_rises prB (rises_one _)
  have hg4 := get_put hr4
  have hl4 := lenAB
  have hT4' : TP 0 0 MX w.heap.size w4 b4 (putK [prA] prB) := hT4
  have kg := get_plain (k := prB.1) u64_zero u64_zero (by decide) hT4' (by rw [hl4]; omega)
  rw [hg4] at kg
  simp only [prB] at kg
  have hT3' := hT3.below hB4
  clear kp q0 q1 q2 hq hBw3 hB4 hT4 hT3 hg4
  go_wp2_with fail
  refine kg.mono ?_
  rintro e w5 ⟨rfl, hB5⟩
  simp only [Option.getD_some, Option.isSome_some]
  have hBw5 := hBw4.trans (hB5.mono hBw4.size)
  have kl1 := len_plain (hT4'.below hB5) (by rw [hl4]; omega)
  rw [hl4] at kl1
  have hT3b := hT3'.below hB5
  clear kg r0 r1 r2 hBw4 hB5 hT4' hT3' hr4
  go_wp2_with fail
  refine kl1.mono ?_
  rintro e w6 ⟨rfl, hB6⟩
  have hBw6 := hBw5.trans (hB6.mono hBw5.size)
  have kl2 := len_plain (hT3b.below hB6) (by simp)
  have e1 : ([prA] : List Pr).length = 1 := rfl
  rw [e1] at kl2
  clear kl1 hBw5 hB6 hT3b
  go_wp2_with fail
  refine kl2.mono ?_
  rintro e w7 ⟨rfl, hB7⟩
  have hBw7 := hBw6.trans (hB7.mono hBw6.size)
  clear kl2 hBw6 hB7
  go_wp2_with fail
  go_ret
  exact ⟨rfl, hBw7⟩
end Go.Proofs.YtfmbikmpobieoaaGreat
/- A hasher that was handed in. -/
namespace Go.Proofs.YtfmbikmpobieoaaGreat
open Go.ChangeShapes Go.WideShapes Go.RowKit Go.Lib Go.Deep
set_option linter.unusedVariables false
set_option linter.unusedSimpArgs false
set_option maxRecDepth 100000
theorem cells26 : Tryz.prog.cellsOf 26 = 3 := by kernel_rfl
theorem cells24 : Tryz.prog.cellsOf 24 = 2 := by kernel_rfl
theorem cells22 : Tryz.prog.cellsOf 22 = 1 := by kernel_rfl
theorem u64_wf {n : Int} (h : (Lit.int .u64 n).wf = true) : U64 n := by have := bounds_u64 h; unfold U64; omega
theorem open_hasher {H : Type} {enc : TypeId × Value → H} {W : World} {b base : Nat} {spare : Nat → Bool} {held : Bool} {v : Value} {d : DataW H} {p : List MemPlace}
    (hv : Value.okWide Tryz.prog W .any b 26 v) (h : DataW.Trod enc Tryz.prog W base spare held 26 v d p) : ∃ k0 k1 m, v = .agg #[.int .u64 k0, .int .u64 k1, .int .u64 m] ∧ U64 k0 ∧ U64 k1 ∧ U64 m := by
  obtain ⟨cs0, rfl, hsz0⟩ := okWide_struct Tryz.underlying26 hv
  rw [cells26] at hsz0
  obtain ⟨x0, y0, z0, rfl⟩ : ∃ x y z, cs0 = #[x, y, z] := by
    match cs0, hsz0 with
    | ⟨[x, y, z]⟩, _ => exact ⟨x, y, z, rfl⟩
  obtain ⟨fu0, hf0⟩ := h
  obtain ⟨s0, s1, n0, hx0, _, g0, g1⟩ := trod_struct2 Tryz.underlying26 hf0
  simp [Value.cells, cells24, cells22] at g0 g1
  obtain ⟨s2, s3, n1, hx1, _, g2, g3⟩ := trod_struct2 Tryz.underlying24 g0
  simp [cells22] at g2 g3
  obtain ⟨a0, e0, _, w0⟩ := DataW.trod_int Tryz.underlying22 g2
  obtain ⟨b0, e1, _, u0⟩ := DataW.trod_int Tryz.underlying22 g3
  obtain ⟨c0, e2, _, t0⟩ := DataW.trod_int Tryz.underlying22 g1
  simp at e0 e1 e2
  subst e0 e1 e2
  exact ⟨a0, b0, c0, rfl, u64_wf w0, u64_wf u0, u64_wf t0⟩
end Go.Proofs.YtfmbikmpobieoaaGreat
