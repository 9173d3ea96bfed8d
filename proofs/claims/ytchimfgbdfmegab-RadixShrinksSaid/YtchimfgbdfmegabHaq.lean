/- appended: a node without its kids as bytes. -/
import Derived.Test.YtchimfgbdfmegabHap
import Derived.Test.YtchimfgbdfmegabHan
import Derived.Test.YtchimfgbdfmegabHao
import Derived.RegionIn
import Derived.RangeFuncWrites
namespace Go.Proofs.Ytchimfgbdfmegab
open Go.RowKit Go.Lib
set_option linter.unusedVariables false
set_option maxRecDepth 100000
set_option linter.unnecessarySimpa false
set_option linter.unusedSimpArgs false
set_option linter.unnecessarySimpa false
set_option maxRecDepth 100000
theorem RdB.two (w : World) (a b : Nat) : RdB (w.alloc (.cells #[.int .u8 a, .int .u8 b] 5)) (.slice (some ⟨w.heap.size, 0, none⟩) 2 2) [a, b] :=
  .inr ⟨⟨w.heap.size, 0, none⟩, 2, rfl, Nat.le_refl _, cell_two_new w (.int .u8 a) (.int .u8 b) 5⟩
theorem text_nil (s : ByteArray) (w : World) (hs : s.size ≤ 1000000) : Calls Try.prog 60 #[.slice none 0 0, .string s] w (MadeB (textB s) w) := by
  have := text_any [] none 0 s w (FullB.nil w) (by simp) (by simp) hs
  simpa using this
theorem Za_wrap (N : Nat) : IntKind.u8.wrap (N : Int) = ((N % 256 : Nat) : Int) := by simp [IntKind.wrap, IntKind.signed, IntKind.bits]
theorem Za_wrap2 (N : Nat) : IntKind.u8.wrap ((N : Int) / 256) = ((N / 256 % 256 : Nat) : Int) := by simp [IntKind.wrap, IntKind.signed, IntKind.bits]
/-- blocks that are no bytes stay -/
structure Kp5 (w w' : World) : Prop where
  size : w.heap.size ≤ w'.heap.size
  block : ∀ i, i < w.heap.size → (∀ cs f, w.heap[i]? ≠ some (.cells cs 5 f)) → w'.heap[i]? = w.heap[i]?
theorem Kp5.trans {a b c : World} (h : Kp5 a b) (k : Kp5 b c) : Kp5 a c :=
  ⟨Nat.le_trans h.size k.size, fun i hi hn => by rw [k.block i (Nat.lt_of_lt_of_le hi h.size) (by rw [h.block i hi hn]; exact hn), h.block i hi hn]⟩
theorem Kp5.of {a b : World} (h : Below a.heap.size a b) : Kp5 a b := ⟨h.size, fun i hi _ => h.block i hi⟩
theorem Kp5.grown {B : Nat} {w w' : World} {v : Value} {L : List Nat} (h : OwnB B w v L) (hg : w.grownBy w' v.ownBlock) : Kp5 w w' :=
  ⟨hg.size, fun i hi hn => hg.block i hi fun e => by
    rcases h.2 with ⟨e0, _⟩ | ⟨g, cap, cur, e0, _, hb, _⟩
    · rw [e0] at e; cases e
    · rw [e0] at e
      have e' : i = g := Option.some.inj e
      subst e'
      exact hn _ _ hb⟩
set_option maxHeartbeats 2000000 in
theorem appended_any (base B b : Nat) (t : RX) (kv v : Value) (bs : List Nat) (L : List Nat) (w : World) (h : Nod base w b t kv bs) (hb : b < B) (hBw : B ≤ w.heap.size) (ho : OwnB B w v L) (hL : L.length ≤ 1000000) (hh : (headB t).length ≤ 1000000) (hn : bs.length ≤ 60000) :
    Calls Try.prog 46 #[at0 b, v] w fun e w' => ∃ v', e = .returned v' ∧ OwnB B w' v' (L ++ headB t) ∧ Below B w w' ∧ Kp5 w w' := by
  obtain ⟨o, lab, val, sh, e1, e2, hBb, c0, c1, c2, c3, c4, c5⟩ := h.cells
  obtain ⟨A, c, hkv⟩ : ∃ A c, kv = .slice A bs.length c := by
    rcases h.row.2 with ⟨e, h0⟩ | ⟨g, cap, cur, e, _⟩
    · exact ⟨none, 0, by rw [e, h0]⟩
    · exact ⟨_, _, e⟩
  subst hkv e2
  have hlt := lab_of e1
  have hhd : headB t = textB lab ++ (valB t.val ++ twoB bs.length) := by unfold headB; rw [hlt, h.len]
  have hll : (headB t).length = (textB lab).length + (valB t.val).length + 2 := by rw [hhd]; simp [twoB]; omega
  have htl := textB_len lab
  have hls : lab.size ≤ 1000000 := by omega
  have hl1 : (textB lab).length ≤ 1000000 := by omega
  have kt := text_nil lab w hls
  have HHD := Lib.hid hhd
  have hbl := h.lt
  clear h e1 hlt hhd htl c0 c5 hBb
  unfold at0
  cases hv : t.val with
  | some wv =>
    rw [hv] at c2 c3
    simp only [Option.getD_some, Option.isSome_some] at c2 c3
    have hvl : (valB t.val).length = 1 + (wv.size + 2) := by rw [hv]; simp [valB, textB_len]; omega
    have hlw : (textB wv).length ≤ 1000000 := by rw [textB_len]; omega
    have HV := Lib.hid hv
    clear hv
    go_enter Try.func46, Try.ntmps46
    go_wp2_with fail
    refine kt.mono ?_
    rintro e w1 ⟨v1, rfl, ho1, hB1⟩
    have hB1' := hB1.mono hBw
    have hsz1 := hB1'.size
    have hO1 := ho.below hB1
    have hrd1 := ho1.rd
    have hsB1 : B ≤ w1.heap.size := Nat.le_trans hBw hsz1
    clear kt ho ho1
    go_upto_region 2 with (at_builtin; refine wpList_appR _ rfl _ _ rfl B v v1 L (textB lab) rfl rfl hO1 hrd1 (by omega) hsB1 ?_; intro v2 w2 ho2 hg2; have hB2 := belowGrown hB1' hg2 hO1 hsB1; have q2 := Kp5.grown hO1 hg2; have d3 : w2.cell? ⟨b, 3, none⟩ = some (.bool true) := (hB2.cell hb).trans c3)
    have hsB2 : B ≤ w2.heap.size := Nat.le_trans hBw hB2.size
    have hBa : Below w2.heap.size w2 (w2.alloc (.cells #[.int .u8 1] 5)) := (Below.refl _ w2).alloc (Nat.le_refl _) _
    have hO2 := ho2.below hBa
    have hB2a := hB2.trans (hBa.mono hsB2)
    have hs2a : B ≤ (w2.alloc (.cells #[.int .u8 1] 5)).heap.size := Nat.le_trans hBw hB2a.size
    have hrd2 : RdB (w2.alloc (.cells #[.int .u8 1] 5)) (.slice (some ⟨w2.heap.size, 0, none⟩) 1 1) [1] := RdB.one w2 1
    have hlA : (L ++ textB lab).length ≤ 2000000 := by rw [List.length_append]; omega
    clear ho2 hg2
    clear hO1 hrd1
    go_upto_region 4 with (at_builtin; refine wpList_appR _ rfl _ _ rfl B v2 (.slice (some ⟨w2.heap.size, 0, none⟩) 1 1) (L ++ textB lab) [1] rfl rfl hO2 hrd2 (by rw [List.length_singleton]; omega) hs2a ?_; intro v3 w3 ho3 hg3; have hB3 := belowGrown hB2a hg3 hO2 hs2a; have q3 := Kp5.grown hO2 hg3; have d2 : w3.cell? ⟨b, 2, none⟩ = some (.string wv) := (hB3.cell hb).trans c2)
    have hsB3 : B ≤ w3.heap.size := Nat.le_trans hBw hB3.size
    have kv2 := text_nil wv w3 (by omega)
    clear hO2 hrd2 hg3
    go_wp2_with fail
    refine kv2.mono ?_
    rintro e w4 ⟨v4, rfl, ho4, hB4⟩
    have hO3 := ho3.below hB4
    have hB34 := hB3.trans (hB4.mono hsB3)
    have hsB4 : B ≤ w4.heap.size := Nat.le_trans hBw hB34.size
    have hrd4 := ho4.rd
    have hlB : (L ++ textB lab ++ [1]).length ≤ 3000000 := by rw [List.length_append, List.length_append, List.length_singleton]; omega
    clear ho3 ho4 kv2
    go_wp2_with (at_builtin; refine wpList_appR _ rfl _ _ rfl B v3 v4 (L ++ textB lab ++ [1]) (textB wv) rfl rfl hO3 hrd4 (by omega) hsB4 ?_; intro v6 w6 ho6 hg6; have hB6 := belowGrown hB34 hg6 hO3 hsB4; have q6 := Kp5.grown hO3 hg6)
    have hL6 : (L ++ textB lab ++ [1] ++ textB wv) ++ twoB bs.length = L ++ headB t := by rw [HHD.out, HV.out]; simp [valB]
    have hl6 : (L ++ textB lab ++ [1] ++ textB wv).length ≤ 4000000 := by rw [List.length_append]; omega
    obtain ⟨L6, hL6e⟩ : ∃ L6, L6 = L ++ textB lab ++ [1] ++ textB wv := ⟨_, rfl⟩
    rw [← hL6e] at hL6 hl6 ho6
    have d4 : w6.cell? ⟨b, 4, none⟩ = some (.slice A bs.length c) := (hB6.cell hb).trans c4
    clear hL6e hg6
    obtain ⟨N, hNe⟩ : ∃ N, N = bs.length := ⟨_, rfl⟩
    rw [← hNe] at d4 hL6
    have hN6 : N ≤ 60000 := by omega
    have HL6 := Lib.hid hL6
    obtain ⟨n0, hn0⟩ : ∃ n0, n0 = N % 256 := ⟨_, rfl⟩
    obtain ⟨n1, hn1⟩ : ∃ n1, n1 = N / 256 % 256 := ⟨_, rfl⟩
    have E0 : IntKind.u8.wrap (N : Int) = (n0 : Int) := by rw [hn0, Za_wrap]
    have E1 : IntKind.u8.wrap ((N : Int) / 256) = (n1 : Int) := by rw [hn1, Za_wrap2]
    have htw : twoB N = [n0, n1] := by rw [hn0, hn1]; rfl
    have hsB6 : B ≤ w6.heap.size := Nat.le_trans hBw hB6.size
    have hB7 : Below B w6 (w6.alloc (.cells #[.int .u8 n0, .int .u8 n1] 5)).drew := (((Below.refl _ w6).alloc (Nat.le_refl _) _).drew).mono hsB6
    have ho7 : OwnB B (w6.alloc (.cells #[.int .u8 n0, .int .u8 n1] 5)).drew v6 L6 := ho6.below ((Below.refl _ w6).alloc (Nat.le_refl _) _).drew
    have hrd7 : RdB (w6.alloc (.cells #[.int .u8 n0, .int .u8 n1] 5)).drew (.slice (some ⟨w6.heap.size, 0, none⟩) 2 2) [n0, n1] := RdB.two w6 n0 n1
    have hs7 : B ≤ (w6.alloc (.cells #[.int .u8 n0, .int .u8 n1] 5)).drew.heap.size := Nat.le_trans hsB6 hB7.size
    have hS14 : (w6.alloc (.cells #[.int .u8 n0, .int .u8 n1] 5)).drew.cell? ⟨b, 4, none⟩ = some (.slice A N c) := (hB7.cell hb).trans d4
    have HTW := Lib.hid htw
    clear hNe hn0 hn1 hL6 htw ho6
    go_wp2_with fail
    refine wp_region_late (S := fun w' : World => w'.cell? ⟨b, 4, none⟩ = some (.slice A N c)) (st := 16) (by kernel_rfl) ?_
    have hS : (fun w' : World => w'.cell? ⟨b, 4, none⟩ = some (.slice A N c)) w6.drew := d4
    refine wpAnyL_take0 (i := 0) (oi := { dst := some 29, op := Go.Op.move (Go.Operand.tmp 1), type := 41, pos := "shape.go:40", after := #[], guard := none }) (v := v6) rfl (by kernel_rfl) (by kernel_rfl) (by kernel_rfl) (by kernel_rfl) (fun _ _ _ h => h) hS (Or.inl ⟨by rfl, fun w hSw => ?_⟩) ?_
    · go_split_ands
      go_simp
    try simp only [Act.put, List.setIfInBounds_toArray, List.set_cons_zero, List.set_cons_succ]
    refine wpAnyL_take0 (i := 1) (oi := { dst := some 30, op := Go.Op.move (Go.Operand.tmp 0), type := 26, pos := "shape.go:40", after := #[], guard := none }) (v := .pointer (some ⟨b, 0, none⟩)) rfl (by kernel_rfl) (by kernel_rfl) (by kernel_rfl) (by kernel_rfl) (fun _ _ _ h => h) hS (Or.inl ⟨by rfl, fun w hSw => ?_⟩) ?_
    · go_split_ands
      go_simp
    try simp only [Act.put, List.setIfInBounds_toArray, List.set_cons_zero, List.set_cons_succ]
    refine wpAnyL_take0 (i := 2) (oi := { dst := some 31, op := Go.Op.nilCheck (Go.Operand.tmp 30), type := 0, pos := "shape.go:40", after := #[{ on := 1, ground := Go.Ground.data }], guard := none }) (v := .pointer (some ⟨b, 0, none⟩)) rfl (by kernel_rfl) (by kernel_rfl) (by kernel_rfl) (by kernel_rfl) (fun _ _ _ h => h) hS (Or.inl ⟨by rfl, fun w hSw => ?_⟩) ?_
    · go_split_ands
      go_simp
    try simp only [Act.put, List.setIfInBounds_toArray, List.set_cons_zero, List.set_cons_succ]
    refine wpAnyL_take0 (i := 3) (oi := { dst := some 32, op := Go.Op.fieldAddr 51 (Go.Operand.tmp 31) 4, type := 0, pos := "shape.go:40", after := #[{ on := 2, ground := Go.Ground.data }], guard := none }) (v := .pointer (some ⟨b, 4, none⟩)) rfl (by kernel_rfl) (by kernel_rfl) (by kernel_rfl) (by kernel_rfl) (fun _ _ _ h => h) hS (Or.inl ⟨by rfl, fun w hSw => ?_⟩) ?_
    · go_split_ands
      go_simp
    try simp only [Act.put, List.setIfInBounds_toArray, List.set_cons_zero, List.set_cons_succ]
    refine wpAnyL_take (i := 4) (oi := { dst := some 33, op := Go.Op.load 45 (Go.Operand.tmp 32), type := 45, pos := "shape.go:40", after := #[{ on := 3, ground := Go.Ground.data }], guard := none }) (v := .slice A N c) rfl (by kernel_rfl) (by kernel_rfl) (by kernel_rfl) (by kernel_rfl) (fun _ _ _ h => h) hS (Or.inl ⟨by rfl, fun w hSw => ?_⟩) ?_
    · go_split_ands
      go_simp
    try simp only [Act.put, List.setIfInBounds_toArray, List.set_cons_zero, List.set_cons_succ]
    refine wpAnyL_take0 (i := 5) (oi := { dst := some 34, op := Go.Op.call { callee := Go.Callee.builtin Go.Builtin.len, args := #[Go.Operand.tmp 33], argTypes := #[45] }, type := 3, pos := "shape.go:40", after := #[{ on := 4, ground := Go.Ground.data }], guard := none }) (v := .int .i64 N) rfl (by kernel_rfl) (by kernel_rfl) (by kernel_rfl) (by kernel_rfl) (fun _ _ _ h => h) hS (Or.inl ⟨by rfl, fun w hSw => ?_⟩) ?_
    · go_split_ands
      go_simp
    try simp only [Act.put, List.setIfInBounds_toArray, List.set_cons_zero, List.set_cons_succ]
    refine wpAnyL_take0 (i := 6) (oi := { dst := some 35, op := Go.Op.convert 3 5 (Go.Operand.tmp 34), type := 5, pos := "shape.go:40", after := #[{ on := 5, ground := Go.Ground.data }], guard := none }) (v := .int .u8 n0) rfl (by kernel_rfl) (by kernel_rfl) (by kernel_rfl) (by kernel_rfl) (fun _ _ _ h => h) hS (Or.inl ⟨by rfl, fun w hSw => ?_⟩) ?_
    · go_split_ands
      go_simp
    try simp only [Act.put, List.setIfInBounds_toArray, List.set_cons_zero, List.set_cons_succ]
    refine wpAnyL_take0 (i := 7) (oi := { dst := some 36, op := Go.Op.move (Go.Operand.tmp 0), type := 26, pos := "shape.go:40", after := #[], guard := none }) (v := .pointer (some ⟨b, 0, none⟩)) rfl (by kernel_rfl) (by kernel_rfl) (by kernel_rfl) (by kernel_rfl) (fun _ _ _ h => h) hS (Or.inl ⟨by rfl, fun w hSw => ?_⟩) ?_
    · go_split_ands
      go_simp
    try simp only [Act.put, List.setIfInBounds_toArray, List.set_cons_zero, List.set_cons_succ]
    refine wpAnyL_take0 (i := 8) (oi := { dst := some 37, op := Go.Op.nilCheck (Go.Operand.tmp 36), type := 0, pos := "shape.go:40", after := #[{ on := 7, ground := Go.Ground.data }], guard := none }) (v := .pointer (some ⟨b, 0, none⟩)) rfl (by kernel_rfl) (by kernel_rfl) (by kernel_rfl) (by kernel_rfl) (fun _ _ _ h => h) hS (Or.inl ⟨by rfl, fun w hSw => ?_⟩) ?_
    · go_split_ands
      go_simp
    try simp only [Act.put, List.setIfInBounds_toArray, List.set_cons_zero, List.set_cons_succ]
    refine wpAnyL_take0 (i := 9) (oi := { dst := some 38, op := Go.Op.fieldAddr 51 (Go.Operand.tmp 37) 4, type := 0, pos := "shape.go:40", after := #[{ on := 8, ground := Go.Ground.data }], guard := none }) (v := .pointer (some ⟨b, 4, none⟩)) rfl (by kernel_rfl) (by kernel_rfl) (by kernel_rfl) (by kernel_rfl) (fun _ _ _ h => h) hS (Or.inl ⟨by rfl, fun w hSw => ?_⟩) ?_
    · go_split_ands
      go_simp
    try simp only [Act.put, List.setIfInBounds_toArray, List.set_cons_zero, List.set_cons_succ]
    refine wpAnyL_take (i := 10) (oi := { dst := some 39, op := Go.Op.load 45 (Go.Operand.tmp 38), type := 45, pos := "shape.go:40", after := #[{ on := 9, ground := Go.Ground.data }], guard := none }) (v := .slice A N c) rfl (by kernel_rfl) (by kernel_rfl) (by kernel_rfl) (by kernel_rfl) (fun _ _ _ h => h) hS (Or.inl ⟨by rfl, fun w hSw => ?_⟩) ?_
    · go_split_ands
      go_simp
    try simp only [Act.put, List.setIfInBounds_toArray, List.set_cons_zero, List.set_cons_succ]
    refine wpAnyL_take0 (i := 11) (oi := { dst := some 40, op := Go.Op.call { callee := Go.Callee.builtin Go.Builtin.len, args := #[Go.Operand.tmp 39], argTypes := #[45] }, type := 3, pos := "shape.go:40", after := #[{ on := 10, ground := Go.Ground.data }], guard := none }) (v := .int .i64 N) rfl (by kernel_rfl) (by kernel_rfl) (by kernel_rfl) (by kernel_rfl) (fun _ _ _ h => h) hS (Or.inl ⟨by rfl, fun w hSw => ?_⟩) ?_
    · go_split_ands
      go_simp
    try simp only [Act.put, List.setIfInBounds_toArray, List.set_cons_zero, List.set_cons_succ]
    refine wpAnyL_take0 (i := 12) (oi := { dst := some 41, op := Go.Op.binOp Go.BinOp.shr 3 (Go.Operand.tmp 40) (Go.Operand.const (Go.Value.int Go.IntKind.u64 8)) 105, type := 3, pos := "shape.go:40", after := #[{ on := 11, ground := Go.Ground.data }], guard := none }) (v := .int .i64 ((N : Int) / 256)) rfl (by kernel_rfl) (by kernel_rfl) (by kernel_rfl) (by kernel_rfl) (fun _ _ _ h => h) hS (Or.inl ⟨by rfl, fun w hSw => ?_⟩) ?_
    · go_split_ands
      go_simp
    try simp only [Act.put, List.setIfInBounds_toArray, List.set_cons_zero, List.set_cons_succ]
    refine wpAnyL_take0 (i := 13) (oi := { dst := some 42, op := Go.Op.convert 3 5 (Go.Operand.tmp 41), type := 5, pos := "shape.go:40", after := #[{ on := 12, ground := Go.Ground.data }], guard := none }) (v := .int .u8 n1) rfl (by kernel_rfl) (by kernel_rfl) (by kernel_rfl) (by kernel_rfl) (fun _ _ _ h => h) hS (Or.inl ⟨by rfl, fun w hSw => ?_⟩) ?_
    · go_split_ands
      go_simp
    try simp only [Act.put, List.setIfInBounds_toArray, List.set_cons_zero, List.set_cons_succ]
    refine wpAnyL_ready (rs := [14]) (by kernel_rfl) (by simp) ?_
    refine AllReadyL.cons (o := { dst := some 43, op := Go.Op.buildSlice 41 2 #[(0, Go.Operand.tmp 35), (1, Go.Operand.tmp 42)], type := 41, pos := "shape.go:40", after := #[{ on := 6, ground := Go.Ground.data }, { on := 13, ground := Go.Ground.data }], guard := none }) rfl (fun K hK => ?_) AllReadyL.nil
    go_simp
    have hSn : (fun w' : World => w'.cell? ⟨b, 4, none⟩ = some (.slice A N c)) _ := hS14
    refine hK.out _ _ (fun _ => hSn) ?_
    clear hK K hS
    try simp only [Act.put, List.setIfInBounds_toArray, List.set_cons_zero, List.set_cons_succ]
    have hS := hSn
    clear hSn
    refine wpAnyL_ready (rs := [15]) (by kernel_rfl) (by simp) ?_
    refine AllReadyL.cons (o := { dst := some 44, op := Go.Op.call { callee := Go.Callee.builtin Go.Builtin.append, args := #[Go.Operand.tmp 29, Go.Operand.tmp 43], argTypes := #[41, 41] }, type := 41, pos := "shape.go:40", after := #[{ on := 0, ground := Go.Ground.data }, { on := 14, ground := Go.Ground.data }], guard := none }) rfl (fun K hK => ?_) AllReadyL.nil
    refine step_appR rfl _ _ rfl B v6 (.slice (some ⟨w6.heap.size, 0, none⟩) 2 2) L6 [n0, n1] (by rfl) (by rfl) ho7 hrd7 (by rw [show [n0, n1].length = 2 from rfl]; omega) hs7 ?_
    intro v8 w8 ho8 hg8
    have q8 := Kp5.grown ho7 hg8
    have hSn : (fun w' : World => w'.cell? ⟨b, 4, none⟩ = some (.slice A N c)) _ := ((belowGrown hB7 hg8 ho7 hs7).cell hb).trans d4
    refine hK.out _ _ (fun _ => hSn) ?_
    clear hK K hS
    try simp only [Act.put, List.setIfInBounds_toArray, List.set_cons_zero, List.set_cons_succ]
    have hS := hSn
    clear hSn
    refine wpAnyL_ready (rs := [16]) (by kernel_rfl) (by simp) ?_
    refine AllReadyL.cons (o := { dst := some 4, op := Go.Op.assign (Go.Operand.tmp 44), type := 41, pos := "shape.go:40", after := #[{ on := 15, ground := Go.Ground.data }, { on := 15, ground := Go.Ground.chain }, { on := 0, ground := Go.Ground.phase }, { on := 1, ground := Go.Ground.phase }, { on := 2, ground := Go.Ground.phase }, { on := 3, ground := Go.Ground.phase }, { on := 4, ground := Go.Ground.phase }, { on := 5, ground := Go.Ground.phase }, { on := 6, ground := Go.Ground.phase }, { on := 7, ground := Go.Ground.phase }, { on := 8, ground := Go.Ground.phase }, { on := 9, ground := Go.Ground.phase }, { on := 10, ground := Go.Ground.phase }, { on := 11, ground := Go.Ground.phase }, { on := 12, ground := Go.Ground.phase }, { on := 13, ground := Go.Ground.phase }, { on := 14, ground := Go.Ground.phase }, { on := 15, ground := Go.Ground.phase }], guard := none }) rfl (fun K hK => ?_) AllReadyL.nil
    go_simp
    refine hK.out _ _ (late_no (by kernel_rfl)) ?_
    clear hK K
    try simp only [Act.put, List.setIfInBounds_toArray, List.set_cons_zero, List.set_cons_succ]
    refine wpAnyL_done (by kernel_rfl) ?_ _
    have hB8 := belowGrown (hB6.trans hB7) hg8 ho7 hs7
    go_wp2_with fail
    go_ret
    refine ⟨v8, rfl, ?_, hB8, (Kp5.of hB1).trans (q2.trans ((Kp5.of hBa).trans (q3.trans ((Kp5.of hB4).trans (q6.trans ((Kp5.of (((Below.refl _ w6).alloc (Nat.le_refl _) _).drew)).trans q8))))))⟩
    rw [← HL6.out, HTW.out]
    exact ho8
  | none =>
    rw [hv] at c2 c3
    simp only [Option.getD_none, Option.isSome_none] at c2 c3
    have HV := Lib.hid hv
    clear hv
    go_enter Try.func46, Try.ntmps46
    go_wp2_with fail
    refine kt.mono ?_
    rintro e w1 ⟨v1, rfl, ho1, hB1⟩
    have hB1' := hB1.mono hBw
    have hsz1 := hB1'.size
    have hO1 := ho.below hB1
    have hrd1 := ho1.rd
    have hsB1 : B ≤ w1.heap.size := Nat.le_trans hBw hsz1
    clear kt ho ho1
    go_upto_region 2 with (at_builtin; refine wpList_appR _ rfl _ _ rfl B v v1 L (textB lab) rfl rfl hO1 hrd1 (by omega) hsB1 ?_; intro v2 w2 ho2 hg2; have hB2 := belowGrown hB1' hg2 hO1 hsB1; have q2 := Kp5.grown hO1 hg2; have d3 : w2.cell? ⟨b, 3, none⟩ = some (.bool false) := (hB2.cell hb).trans c3)
    have hsB2 : B ≤ w2.heap.size := Nat.le_trans hBw hB2.size
    have hBa : Below w2.heap.size w2 (w2.alloc (.cells #[.int .u8 0] 5)) := (Below.refl _ w2).alloc (Nat.le_refl _) _
    have hO2 := ho2.below hBa
    have hB2a := hB2.trans (hBa.mono hsB2)
    have hs2a : B ≤ (w2.alloc (.cells #[.int .u8 0] 5)).heap.size := Nat.le_trans hBw hB2a.size
    have hrd2 := RdB.one w2 0
    have hlA : (L ++ textB lab).length ≤ 2000000 := by rw [List.length_append]; omega
    clear ho2 hg2
    clear hO1 hrd1
    go_upto_region 6 with (at_builtin; refine wpList_appR _ rfl _ _ rfl B v2 (.slice (some ⟨w2.heap.size, 0, none⟩) 1 1) (L ++ textB lab) [0] rfl rfl hO2 hrd2 (by rw [List.length_singleton]; omega) hs2a ?_; intro v6 w6 ho6 hg6; have hB6 := belowGrown hB2a hg6 hO2 hs2a; have q6 := Kp5.grown hO2 hg6)
    have hL6 : (L ++ textB lab ++ [0]) ++ twoB bs.length = L ++ headB t := by rw [HHD.out, HV.out]; simp [valB]
    have hl6 : (L ++ textB lab ++ [0]).length ≤ 4000000 := by rw [List.length_append, List.length_singleton]; omega
    obtain ⟨L6, hL6e⟩ : ∃ L6, L6 = L ++ textB lab ++ [0] := ⟨_, rfl⟩
    rw [← hL6e] at hL6 hl6 ho6
    have d4 : w6.cell? ⟨b, 4, none⟩ = some (.slice A bs.length c) := (hB6.cell hb).trans c4
    clear hL6e hg6
    obtain ⟨N, hNe⟩ : ∃ N, N = bs.length := ⟨_, rfl⟩
    rw [← hNe] at d4 hL6
    have hN6 : N ≤ 60000 := by omega
    have HL6 := Lib.hid hL6
    obtain ⟨n0, hn0⟩ : ∃ n0, n0 = N % 256 := ⟨_, rfl⟩
    obtain ⟨n1, hn1⟩ : ∃ n1, n1 = N / 256 % 256 := ⟨_, rfl⟩
    have E0 : IntKind.u8.wrap (N : Int) = (n0 : Int) := by rw [hn0, Za_wrap]
    have E1 : IntKind.u8.wrap ((N : Int) / 256) = (n1 : Int) := by rw [hn1, Za_wrap2]
    have htw : twoB N = [n0, n1] := by rw [hn0, hn1]; rfl
    have hsB6 : B ≤ w6.heap.size := Nat.le_trans hBw hB6.size
    have hB7 : Below B w6 (w6.alloc (.cells #[.int .u8 n0, .int .u8 n1] 5)).drew := (((Below.refl _ w6).alloc (Nat.le_refl _) _).drew).mono hsB6
    have ho7 : OwnB B (w6.alloc (.cells #[.int .u8 n0, .int .u8 n1] 5)).drew v6 L6 := ho6.below ((Below.refl _ w6).alloc (Nat.le_refl _) _).drew
    have hrd7 : RdB (w6.alloc (.cells #[.int .u8 n0, .int .u8 n1] 5)).drew (.slice (some ⟨w6.heap.size, 0, none⟩) 2 2) [n0, n1] := RdB.two w6 n0 n1
    have hs7 : B ≤ (w6.alloc (.cells #[.int .u8 n0, .int .u8 n1] 5)).drew.heap.size := Nat.le_trans hsB6 hB7.size
    have hS14 : (w6.alloc (.cells #[.int .u8 n0, .int .u8 n1] 5)).drew.cell? ⟨b, 4, none⟩ = some (.slice A N c) := (hB7.cell hb).trans d4
    have HTW := Lib.hid htw
    clear hNe hn0 hn1 hL6 htw ho6
    go_wp2_with fail
    refine wp_region_late (S := fun w' : World => w'.cell? ⟨b, 4, none⟩ = some (.slice A N c)) (st := 16) (by kernel_rfl) ?_
    have hS : (fun w' : World => w'.cell? ⟨b, 4, none⟩ = some (.slice A N c)) w6.drew := d4
    refine wpAnyL_take0 (i := 0) (oi := { dst := some 29, op := Go.Op.move (Go.Operand.tmp 1), type := 41, pos := "shape.go:40", after := #[], guard := none }) (v := v6) rfl (by kernel_rfl) (by kernel_rfl) (by kernel_rfl) (by kernel_rfl) (fun _ _ _ h => h) hS (Or.inl ⟨by rfl, fun w hSw => ?_⟩) ?_
    · go_split_ands
      go_simp
    try simp only [Act.put, List.setIfInBounds_toArray, List.set_cons_zero, List.set_cons_succ]
    refine wpAnyL_take0 (i := 1) (oi := { dst := some 30, op := Go.Op.move (Go.Operand.tmp 0), type := 26, pos := "shape.go:40", after := #[], guard := none }) (v := .pointer (some ⟨b, 0, none⟩)) rfl (by kernel_rfl) (by kernel_rfl) (by kernel_rfl) (by kernel_rfl) (fun _ _ _ h => h) hS (Or.inl ⟨by rfl, fun w hSw => ?_⟩) ?_
    · go_split_ands
      go_simp
    try simp only [Act.put, List.setIfInBounds_toArray, List.set_cons_zero, List.set_cons_succ]
    refine wpAnyL_take0 (i := 2) (oi := { dst := some 31, op := Go.Op.nilCheck (Go.Operand.tmp 30), type := 0, pos := "shape.go:40", after := #[{ on := 1, ground := Go.Ground.data }], guard := none }) (v := .pointer (some ⟨b, 0, none⟩)) rfl (by kernel_rfl) (by kernel_rfl) (by kernel_rfl) (by kernel_rfl) (fun _ _ _ h => h) hS (Or.inl ⟨by rfl, fun w hSw => ?_⟩) ?_
    · go_split_ands
      go_simp
    try simp only [Act.put, List.setIfInBounds_toArray, List.set_cons_zero, List.set_cons_succ]
    refine wpAnyL_take0 (i := 3) (oi := { dst := some 32, op := Go.Op.fieldAddr 51 (Go.Operand.tmp 31) 4, type := 0, pos := "shape.go:40", after := #[{ on := 2, ground := Go.Ground.data }], guard := none }) (v := .pointer (some ⟨b, 4, none⟩)) rfl (by kernel_rfl) (by kernel_rfl) (by kernel_rfl) (by kernel_rfl) (fun _ _ _ h => h) hS (Or.inl ⟨by rfl, fun w hSw => ?_⟩) ?_
    · go_split_ands
      go_simp
    try simp only [Act.put, List.setIfInBounds_toArray, List.set_cons_zero, List.set_cons_succ]
    refine wpAnyL_take (i := 4) (oi := { dst := some 33, op := Go.Op.load 45 (Go.Operand.tmp 32), type := 45, pos := "shape.go:40", after := #[{ on := 3, ground := Go.Ground.data }], guard := none }) (v := .slice A N c) rfl (by kernel_rfl) (by kernel_rfl) (by kernel_rfl) (by kernel_rfl) (fun _ _ _ h => h) hS (Or.inl ⟨by rfl, fun w hSw => ?_⟩) ?_
    · go_split_ands
      go_simp
    try simp only [Act.put, List.setIfInBounds_toArray, List.set_cons_zero, List.set_cons_succ]
    refine wpAnyL_take0 (i := 5) (oi := { dst := some 34, op := Go.Op.call { callee := Go.Callee.builtin Go.Builtin.len, args := #[Go.Operand.tmp 33], argTypes := #[45] }, type := 3, pos := "shape.go:40", after := #[{ on := 4, ground := Go.Ground.data }], guard := none }) (v := .int .i64 N) rfl (by kernel_rfl) (by kernel_rfl) (by kernel_rfl) (by kernel_rfl) (fun _ _ _ h => h) hS (Or.inl ⟨by rfl, fun w hSw => ?_⟩) ?_
    · go_split_ands
      go_simp
    try simp only [Act.put, List.setIfInBounds_toArray, List.set_cons_zero, List.set_cons_succ]
    refine wpAnyL_take0 (i := 6) (oi := { dst := some 35, op := Go.Op.convert 3 5 (Go.Operand.tmp 34), type := 5, pos := "shape.go:40", after := #[{ on := 5, ground := Go.Ground.data }], guard := none }) (v := .int .u8 n0) rfl (by kernel_rfl) (by kernel_rfl) (by kernel_rfl) (by kernel_rfl) (fun _ _ _ h => h) hS (Or.inl ⟨by rfl, fun w hSw => ?_⟩) ?_
    · go_split_ands
      go_simp
    try simp only [Act.put, List.setIfInBounds_toArray, List.set_cons_zero, List.set_cons_succ]
    refine wpAnyL_take0 (i := 7) (oi := { dst := some 36, op := Go.Op.move (Go.Operand.tmp 0), type := 26, pos := "shape.go:40", after := #[], guard := none }) (v := .pointer (some ⟨b, 0, none⟩)) rfl (by kernel_rfl) (by kernel_rfl) (by kernel_rfl) (by kernel_rfl) (fun _ _ _ h => h) hS (Or.inl ⟨by rfl, fun w hSw => ?_⟩) ?_
    · go_split_ands
      go_simp
    try simp only [Act.put, List.setIfInBounds_toArray, List.set_cons_zero, List.set_cons_succ]
    refine wpAnyL_take0 (i := 8) (oi := { dst := some 37, op := Go.Op.nilCheck (Go.Operand.tmp 36), type := 0, pos := "shape.go:40", after := #[{ on := 7, ground := Go.Ground.data }], guard := none }) (v := .pointer (some ⟨b, 0, none⟩)) rfl (by kernel_rfl) (by kernel_rfl) (by kernel_rfl) (by kernel_rfl) (fun _ _ _ h => h) hS (Or.inl ⟨by rfl, fun w hSw => ?_⟩) ?_
    · go_split_ands
      go_simp
    try simp only [Act.put, List.setIfInBounds_toArray, List.set_cons_zero, List.set_cons_succ]
    refine wpAnyL_take0 (i := 9) (oi := { dst := some 38, op := Go.Op.fieldAddr 51 (Go.Operand.tmp 37) 4, type := 0, pos := "shape.go:40", after := #[{ on := 8, ground := Go.Ground.data }], guard := none }) (v := .pointer (some ⟨b, 4, none⟩)) rfl (by kernel_rfl) (by kernel_rfl) (by kernel_rfl) (by kernel_rfl) (fun _ _ _ h => h) hS (Or.inl ⟨by rfl, fun w hSw => ?_⟩) ?_
    · go_split_ands
      go_simp
    try simp only [Act.put, List.setIfInBounds_toArray, List.set_cons_zero, List.set_cons_succ]
    refine wpAnyL_take (i := 10) (oi := { dst := some 39, op := Go.Op.load 45 (Go.Operand.tmp 38), type := 45, pos := "shape.go:40", after := #[{ on := 9, ground := Go.Ground.data }], guard := none }) (v := .slice A N c) rfl (by kernel_rfl) (by kernel_rfl) (by kernel_rfl) (by kernel_rfl) (fun _ _ _ h => h) hS (Or.inl ⟨by rfl, fun w hSw => ?_⟩) ?_
    · go_split_ands
      go_simp
    try simp only [Act.put, List.setIfInBounds_toArray, List.set_cons_zero, List.set_cons_succ]
    refine wpAnyL_take0 (i := 11) (oi := { dst := some 40, op := Go.Op.call { callee := Go.Callee.builtin Go.Builtin.len, args := #[Go.Operand.tmp 39], argTypes := #[45] }, type := 3, pos := "shape.go:40", after := #[{ on := 10, ground := Go.Ground.data }], guard := none }) (v := .int .i64 N) rfl (by kernel_rfl) (by kernel_rfl) (by kernel_rfl) (by kernel_rfl) (fun _ _ _ h => h) hS (Or.inl ⟨by rfl, fun w hSw => ?_⟩) ?_
    · go_split_ands
      go_simp
    try simp only [Act.put, List.setIfInBounds_toArray, List.set_cons_zero, List.set_cons_succ]
    refine wpAnyL_take0 (i := 12) (oi := { dst := some 41, op := Go.Op.binOp Go.BinOp.shr 3 (Go.Operand.tmp 40) (Go.Operand.const (Go.Value.int Go.IntKind.u64 8)) 105, type := 3, pos := "shape.go:40", after := #[{ on := 11, ground := Go.Ground.data }], guard := none }) (v := .int .i64 ((N : Int) / 256)) rfl (by kernel_rfl) (by kernel_rfl) (by kernel_rfl) (by kernel_rfl) (fun _ _ _ h => h) hS (Or.inl ⟨by rfl, fun w hSw => ?_⟩) ?_
    · go_split_ands
      go_simp
    try simp only [Act.put, List.setIfInBounds_toArray, List.set_cons_zero, List.set_cons_succ]
    refine wpAnyL_take0 (i := 13) (oi := { dst := some 42, op := Go.Op.convert 3 5 (Go.Operand.tmp 41), type := 5, pos := "shape.go:40", after := #[{ on := 12, ground := Go.Ground.data }], guard := none }) (v := .int .u8 n1) rfl (by kernel_rfl) (by kernel_rfl) (by kernel_rfl) (by kernel_rfl) (fun _ _ _ h => h) hS (Or.inl ⟨by rfl, fun w hSw => ?_⟩) ?_
    · go_split_ands
      go_simp
    try simp only [Act.put, List.setIfInBounds_toArray, List.set_cons_zero, List.set_cons_succ]
    refine wpAnyL_ready (rs := [14]) (by kernel_rfl) (by simp) ?_
    refine AllReadyL.cons (o := { dst := some 43, op := Go.Op.buildSlice 41 2 #[(0, Go.Operand.tmp 35), (1, Go.Operand.tmp 42)], type := 41, pos := "shape.go:40", after := #[{ on := 6, ground := Go.Ground.data }, { on := 13, ground := Go.Ground.data }], guard := none }) rfl (fun K hK => ?_) AllReadyL.nil
    go_simp
    have hSn : (fun w' : World => w'.cell? ⟨b, 4, none⟩ = some (.slice A N c)) _ := hS14
    refine hK.out _ _ (fun _ => hSn) ?_
    clear hK K hS
    try simp only [Act.put, List.setIfInBounds_toArray, List.set_cons_zero, List.set_cons_succ]
    have hS := hSn
    clear hSn
    refine wpAnyL_ready (rs := [15]) (by kernel_rfl) (by simp) ?_
    refine AllReadyL.cons (o := { dst := some 44, op := Go.Op.call { callee := Go.Callee.builtin Go.Builtin.append, args := #[Go.Operand.tmp 29, Go.Operand.tmp 43], argTypes := #[41, 41] }, type := 41, pos := "shape.go:40", after := #[{ on := 0, ground := Go.Ground.data }, { on := 14, ground := Go.Ground.data }], guard := none }) rfl (fun K hK => ?_) AllReadyL.nil
    refine step_appR rfl _ _ rfl B v6 (.slice (some ⟨w6.heap.size, 0, none⟩) 2 2) L6 [n0, n1] (by rfl) (by rfl) ho7 hrd7 (by rw [show [n0, n1].length = 2 from rfl]; omega) hs7 ?_
    intro v8 w8 ho8 hg8
    have q8 := Kp5.grown ho7 hg8
    have hSn : (fun w' : World => w'.cell? ⟨b, 4, none⟩ = some (.slice A N c)) _ := ((belowGrown hB7 hg8 ho7 hs7).cell hb).trans d4
    refine hK.out _ _ (fun _ => hSn) ?_
    clear hK K hS
    try simp only [Act.put, List.setIfInBounds_toArray, List.set_cons_zero, List.set_cons_succ]
    have hS := hSn
    clear hSn
    refine wpAnyL_ready (rs := [16]) (by kernel_rfl) (by simp) ?_
    refine AllReadyL.cons (o := { dst := some 4, op := Go.Op.assign (Go.Operand.tmp 44), type := 41, pos := "shape.go:40", after := #[{ on := 15, ground := Go.Ground.data }, { on := 15, ground := Go.Ground.chain }, { on := 0, ground := Go.Ground.phase }, { on := 1, ground := Go.Ground.phase }, { on := 2, ground := Go.Ground.phase }, { on := 3, ground := Go.Ground.phase }, { on := 4, ground := Go.Ground.phase }, { on := 5, ground := Go.Ground.phase }, { on := 6, ground := Go.Ground.phase }, { on := 7, ground := Go.Ground.phase }, { on := 8, ground := Go.Ground.phase }, { on := 9, ground := Go.Ground.phase }, { on := 10, ground := Go.Ground.phase }, { on := 11, ground := Go.Ground.phase }, { on := 12, ground := Go.Ground.phase }, { on := 13, ground := Go.Ground.phase }, { on := 14, ground := Go.Ground.phase }, { on := 15, ground := Go.Ground.phase }], guard := none }) rfl (fun K hK => ?_) AllReadyL.nil
    go_simp
    refine hK.out _ _ (late_no (by kernel_rfl)) ?_
    clear hK K
    try simp only [Act.put, List.setIfInBounds_toArray, List.set_cons_zero, List.set_cons_succ]
    refine wpAnyL_done (by kernel_rfl) ?_ _
    have hB8 := belowGrown (hB6.trans hB7) hg8 ho7 hs7
    go_wp2_with fail
    go_ret
    refine ⟨v8, rfl, ?_, hB8, (Kp5.of hB1).trans (q2.trans ((Kp5.of hBa).trans (q6.trans ((Kp5.of (((Below.refl _ w6).alloc (Nat.le_refl _) _).drew)).trans q8))))⟩
    rw [← HL6.out, HTW.out]
    exact ho8
end Go.Proofs.Ytchimfgbdfmegab
/- slices.Backward of children: its contract. -/
namespace Go.Proofs.Ytchimfgbdfmegab.Its
open Go.RowKit Go.Shelf
set_option linter.unusedVariables false
set_option maxRecDepth 100000
set_option linter.unnecessarySimpa false
set_option linter.unusedSimpArgs false
set_option linter.unnecessarySimpa false
set_option maxRecDepth 100000
attribute [local go_sem] Oper.semAt_some
/-- what has come behind k rounds, from the last child on -/
def upB (bs : List Nat) (k : Nat) : List (Nat × Nat) := (List.range k).map fun j => (bs.length - 1 - j, bs.getD (bs.length - 1 - j) 0)
theorem upB_succ (bs : List Nat) (k : Nat) : upB bs (k + 1) = upB bs k ++ [(bs.length - 1 - k, bs.getD (bs.length - 1 - k) 0)] := by simp [upB, List.range_succ]
theorem upB_length (bs : List Nat) (k : Nat) : (upB bs k).length = k := by simp [upB]
theorem upB_all (bs : List Nat) : (upB bs bs.length).map (·.2) = bs.reverse := by
  apply List.ext_getElem
  · simp [upB]
  · intro i h1 h2
    have h3 : i < bs.length := by simpa using h2
    simp [upB, List.getElem_reverse, List.getD_eq_getElem?_getD]
    rw [List.getElem?_eq_getElem (by omega)]
    rfl
/-- what a round must keep -/
def KpK (n₀ Bs : Nat) (W W' : World) : Prop := Below n₀ W W' ∧ KpB Bs W W'
theorem KpK_t {n₀ B : Nat} {X Y Z : World} (h : KpK n₀ B X Y) (k : KpK n₀ B Y Z) : KpK n₀ B X Z := ⟨h.1.trans k.1, KpB_t h.2 k.2⟩
theorem KpK_b {n₀ B : Nat} {w : World} (hn : n₀ ≤ w.heap.size) (hB : B < w.heap.size) (W : World) (l : Nat) (o o' : Obj) (hl : w.heap.size ≤ l) (h : W.heap[l]? = some o) (h1 : o.isCells = false) (h2 : o.isWalk = false) : KpK n₀ B W (W.putObj l o') :=
  ⟨belowK_b hn W l o o' hl h h1 h2, KpB_b hB W l o o' hl h h1 h2⟩
set_option maxHeartbeats 1000000 in
theorem back1_in (n l Bs n₀ b cap : Nat) (bs : List Nat) (hb : b < n₀) (hl : bs.length ≤ 1000000) (J Jx : List (Nat × Nat) → World → Prop)
    (hY : ∀ pre (x : Nat × Nat) W, J pre W → pre.length < bs.length → YieldAt Fence.wide (n - 1) Try.prog l #[.int .i64 x.1, at0 x.2] W fun e W' =>
      (e = .returned (.bool true) ∧ J (pre ++ [x]) W' ∧ KpK n₀ Bs W W') ∨ (e = .returned (.bool false) ∧ Jx (pre ++ [x]) W'))
    (hn : 1 ≤ n) (W : World) (hBs : CBlk W Bs 45 #[.slice (some ⟨b, 0, none⟩) bs.length cap]) (hc : ∀ j, j < bs.length → W.cell? ⟨b, j, none⟩ = some (at0 (bs.getD j 0))) (h0 : J [] W) :
    CallsIn Fence.wide n Try.prog 61 #[.func (.yield l) #[] #[], .pointer (some ⟨Bs, 0, none⟩)] W fun e W' => (∃ v, e = .returned v) ∧
      ((∃ ys, ys = upB bs bs.length ∧ J ys W') ∨ (∃ pre, (∃ k, k ≤ bs.length ∧ pre = upB bs k) ∧ Jx pre W')) := by
  have hc0 := hBs.cell 0
  obtain ⟨N, hN⟩ : ∃ N, N = bs.length := ⟨_, rfl⟩
  have HN := Lib.hid hN
  rw [← hN] at hBs hl hc hY hc0 ⊢
  have hN1 : IntKind.i64.wrap ((N : Int) - 1) = (N : Int) - 1 := IntWalk.i64_in _ (by omega)
  refine callsIn_of_wp Try.func61 rfl trivial ?_ rfl
  simp only [Try.ntmps61, List.size_toArray, List.length_cons, List.length_nil, Nat.reduceAdd, Nat.reduceSub, Array.replicate_succ, Array.replicate_zero, List.push_toArray, List.append_toArray, List.nil_append, List.cons_append]
  clear hN
  gi_wp2
  gi_loopw [3] (fun i wr => ∃ k : Nat, k ≤ N ∧ i = .int .i64 ((N : Int) - 1 - k) ∧ J (upB bs k) wr ∧ KpK n₀ Bs W wr) (fun i wr => (intOf i + 1).toNat)
  case atStart => exact ⟨0, by omega, by simp [hN1], h0, Below.refl _ _, rfl⟩
  case round =>
    obtain ⟨k, hk, rfl, hJ, hK⟩ := hrel
    by_cases hlt : k < N
    · have hB : CBlk wr Bs 45 #[.slice (some ⟨b, 0, none⟩) N cap] := Eq.trans hK.2 hBs
      have c0 := hB.cell 0
      have hx := (hK.1.cell (p := ⟨b, N - 1 - k, none⟩) hb).trans (hc (N - 1 - k) (by omega))
      obtain ⟨fn, tmps, assign, body, hy, hR⟩ := hY (upB bs k) (N - 1 - k, bs.getD (N - 1 - k) 0) wr hJ (by rw [upB_length]; exact hlt)
      have hup := upB_succ bs k
      rw [← HN.out] at hup
      have HU := Lib.hid hup
      clear hup hc hY hB hBs hc0
      have hge : (0 : Int) ≤ (N : Int) - 1 - k := by omega
      have hij : ((N - 1 - k : Nat) : Int) = (N : Int) - 1 - k := by omega
      generalize bs.getD (N - 1 - k) 0 = X at *
      obtain ⟨I, hI⟩ : ∃ I, I = N - 1 - k := ⟨_, rfl⟩
      rw [← hij] at hge ⊢
      rw [← hI] at hge hx hy ⊢
      have hIN : (I : Int) < N := by omega
      have hIN' : I < N := by omega
      have E2 : IntKind.i64.wrap ((I : Int) - 1) = (I : Int) - 1 := IntWalk.i64_in _ (by omega)
      have hIe : (I : Int) - 1 = (N : Int) - 1 - ((k + 1 : Nat) : Int) := by omega
      have HE := Lib.hid hIe
      have HI := Lib.hid hI
      clear hij hI hIe
      dsimp only at hy
      unfold at0 at hx hy
      gi_wp2
      refine hR.mono ?_
      rintro e W3 (⟨rfl, hJ3, hk3⟩ | ⟨rfl, hJx3⟩)
      · gi_wp2
        go_roundw
        case rel => exact ⟨k + 1, by omega, by rw [HE.out], by rw [HU.out]; exact hJ3, KpK_t hK hk3⟩
        case measure => simp [intOf]
      · gi_wp2
        refine bodyPost_ret (results_none rfl _ _ _) rfl ?_
        exact ⟨⟨_, rfl⟩, .inr ⟨_, ⟨k + 1, by omega, HU.out.symm⟩, hJx3⟩⟩
    · obtain rfl : k = N := by omega
      have hneg : ¬ ((0 : Int) ≤ (k : Int) - 1 - k) := by omega
      gi_wp2
      go_end0
      first
        | exact ⟨⟨_, rfl⟩, .inl hJ⟩
        | exact ⟨⟨_, rfl⟩, .inl ⟨_, rfl, hJ⟩⟩
set_option maxHeartbeats 1000000 in
theorem back1_nil_in (n l Bs : Nat) (J : List (Nat × Nat) → World → Prop) (W : World) (hBs : W.cell? ⟨Bs, 0, none⟩ = some (.slice none 0 0)) (h0 : J [] W) :
    CallsIn Fence.wide n Try.prog 61 #[.func (.yield l) #[] #[], .pointer (some ⟨Bs, 0, none⟩)] W fun e W' => (∃ v, e = .returned v) ∧ J [] W' := by
  refine callsIn_of_wp Try.func61 rfl trivial ?_ rfl
  simp only [Try.ntmps61, List.size_toArray, List.length_cons, List.length_nil, Nat.reduceAdd, Nat.reduceSub, Array.replicate_succ, Array.replicate_zero, List.push_toArray, List.append_toArray, List.nil_append, List.cons_append]
  gi_wp2
  gi_loopw [3] (fun i wr => i = .int .i64 (-1) ∧ J [] wr) (fun _ _ => 0)
  case atStart => exact ⟨by simp [IntKind.wrap, IntKind.signed, IntKind.bits], h0⟩
  case round =>
    obtain ⟨rfl, hJ⟩ := hrel
    gi_wp2
    go_end0
    exact ⟨⟨_, rfl⟩, hJ⟩
set_option maxHeartbeats 1000000 in
theorem back_any (a : Option Addr) (len cap : Nat) (w : World) :
    Calls Try.prog 47 #[.slice a len cap] w fun e w' => e = .returned (.func (.func 61) #[] #[.pointer (some ⟨w.heap.size, 0, none⟩)]) ∧ w.alloc (.cells #[.slice a len cap] 45) = w' := by
  go_enter Try.func47, Try.ntmps47
  go_wp2
  go_ret
  exact ⟨rfl, rfl⟩
theorem back_stops (n Bs n₀ base : Nat) (kv : Value) (bs : List Nat) (hn : 1 ≤ n) (hl : bs.length ≤ 1000000) (w : World) (hB : CBlk w Bs 45 #[kv]) (hn₀ : n₀ ≤ w.heap.size) (hr : OwnK base w kv bs) (hg : ∀ g, kv.ownBlock = some g → g < n₀) :
    SeqStopsK Fence.wide n Try.prog 61 #[.pointer (some ⟨Bs, 0, none⟩)] (fun x : Nat × Nat => #[Value.int .i64 x.1, at0 x.2]) (KpK n₀ Bs) (fun ys => ys.map (·.2) = bs.reverse) (fun _ => True) bs.length w :=
  fun l J Jx W hW _ _ hY h0 => by
    have hB' := hB.below hW hB.lt
    rcases hr.2 with ⟨rfl, e0⟩ | ⟨g, cap, cur, rfl, _⟩
    · obtain rfl := List.length_eq_zero_iff.1 e0
      refine (back1_nil_in n l Bs J W (hB'.cell 0) h0).mono fun e W' ⟨he, hj⟩ => ⟨he, .inl ⟨_, rfl, hj⟩⟩
    · have hgl := hg g rfl
      refine (back1_in n l Bs n₀ g cap bs hgl hl J Jx hY hn W hB' (fun j hj => ?_) h0).mono ?_
      · rw [hW.cell (p := ⟨g, j, none⟩) (Nat.lt_of_lt_of_le hgl hn₀)]
        obtain ⟨g', cap', e', _, _, h⟩ := OwnK.atK hr j (bs.getD j 0) (by rw [List.getD_eq_getElem?_getD, List.getElem?_eq_getElem hj]; rfl)
        simp only [Value.slice.injEq, Option.some.injEq, Addr.mk.injEq] at e'
        obtain ⟨⟨rfl, -, -⟩, -, -⟩ := e'
        exact h
      · rintro e W' ⟨he, ⟨ys, rfl, hj⟩ | ⟨pre, _, hj⟩⟩
        · exact ⟨he, .inl ⟨_, upB_all bs, hj⟩⟩
        · exact ⟨he, .inr ⟨_, trivial, hj⟩⟩
end Go.Proofs.Ytchimfgbdfmegab.Its
/- Shape of trees. -/
namespace Go.Proofs.Ytchimfgbdfmegab
open Go.RowKit Go.Shelf
set_option linter.unusedVariables false
set_option maxRecDepth 100000
set_option linter.unnecessarySimpa false
set_option linter.unusedSimpArgs false
set_option linter.unnecessarySimpa false
set_option maxRecDepth 100000
attribute [local go_sem] Oper.semAt_some
theorem own_same {w w' : World} {base e size n : Nat} {v : Value} {xs : List Value} (h : w.ownsRow base e size v n xs) (hs : ∀ (i : Nat) (cs : Array Value) (f : Nat × Nat), w.heap[i]? = some (Obj.cells cs e f) → w'.heap[i]? = w.heap[i]?) : w'.ownsRow base e size v n xs := by
  refine ⟨h.1, ?_⟩
  rcases h.2 with h1 | ⟨g, cap, cur, h1, h2, h3, h4⟩
  · exact .inl h1
  · exact .inr ⟨g, cap, cur, h1, h2, (hs g _ _ h3).trans h3, h4⟩
/-- the marks of loops over iterators are all empty: the function leaves -/
theorem leavesM_all {F : Fence} {n : Nat} {P : Program} {fn : Func} {tmps : Array Value} {R : Ending → World → Prop} (K : World → Prop) (Ds0 : Nat → Prop)
    (hK : ∀ W D, Ds0 D → K W → W.heap[D]? = some (.deferred (some [])) → K (W.putObj D (.deferred none))) (hfin : ∀ W, K W → LeavesIn F n P fn tmps R [] .returning W) :
    ∀ (Ds : List Nat) (W : World), Ds.Nodup → (∀ D ∈ Ds, Ds0 D ∧ W.heap[D]? = some (.deferred (some []))) → K W → LeavesInM F n P fn tmps R (Ds.map fun D => { target := .collected D, args := #[] }) .returning W
  | [], W, _, _, h => hfin W h
  | D :: Ds, W, hn, hd, h => by
    obtain ⟨h1, h2⟩ := hd D (by simp)
    rw [List.nodup_cons] at hn
    refine ⟨by simp, .inl ⟨D, _, rfl, run_takeDeferred h2, ?_⟩⟩
    refine leavesM_all K Ds0 hK hfin Ds _ hn.2 (fun D' hD' => ⟨(hd D' (by simp [hD'])).1, ?_⟩) (hK W D h1 h h2)
    rw [World.putObj_heap_other (fun e => hn.1 (by rw [← e] ; exact hD')) ]
    exact (hd D' (by simp [hD'])).2
def sliceLen : Value → Nat
  | .slice _ n _ => n
  | _ => 0
theorem headB_pos (t : RX) : 5 ≤ (headB t).length := by
  unfold headB
  rw [List.length_append, textB_len, List.length_append]
  have : 1 ≤ (valB t.val).length := by cases t.val <;> simp [valB]
  have h2 : (twoB t.kids.length).length = 2 := rfl
  omega
theorem shBL_len : ∀ ks : List RX, ks.length ≤ (shBL ks).length
  | [] => by simp
  | k :: ks => by
    rw [shBL_cons, List.length_append, shB_eq, List.length_append, List.length_cons]
    have := shBL_len ks
    have := headB_pos k
    omega
/-- where Shape stands -/
structure ShR (w : World) (T4 : Nat) (T : List Nat) (v3 : Value) (DS : List Deferred) (st : List (Nat × RX)) (L : List Nat) (v4 : Value) (Ds : List Nat) (wr : World) : Prop where
  own : OwnB w.heap.size wr v3 L
  box : Blk wr T4 45 #[v4]
  row : OwnK w.heap.size wr v4 (st.map (·.1))
  tr : ∀ e ∈ st, RadW (fun _ => True) w e.1 e.2 ∧ Few e.2
  sum : L ++ shBL (st.reverse.map (·.2)) = T
  ds : DS = Ds.map fun D => { target := .collected D, args := #[] }
  nod : Ds.Nodup
  dd : ∀ D ∈ Ds, w.heap.size ≤ D ∧ wr.heap[D]? = some (.deferred (some []))
  bel : Below w.heap.size w wr
theorem Kp5.blk {w w' : World} {b t : Nat} {cs : Array Value} (h : Kp5 w w') (hb : Blk w b t cs) (ht : t ≠ 5) : Blk w' b t cs :=
  (h.block b hb.lt (fun c f e => by rw [show w.heap[b]? = some (Obj.cells cs t (0, 0)) from hb] at e; injection e with e; injection e with _ e _; exact ht e)).trans hb
theorem Kp5.rowK {w w' : World} {base : Nat} {v : Value} {ks : List Nat} (h : Kp5 w w') (hk : OwnK base w v ks) : OwnK base w' v ks :=
  own_same hk fun i cs f e => h.block i (Array.getElem?_eq_some_iff.1 e).1 (fun c g e' => by rw [e] at e'; injection e' with e'; injection e' with _ e' _; cases e')
/-- .. inside a round of its own -/
structure ShJ (w : World) (T4 : Nat) (v5 : Value) (L5 : List Nat) (Ds : List Nat) (v4 : Value) (W : World) : Prop where
  box : Blk W T4 45 #[v4]
  own : OwnB w.heap.size W v5 L5
  dd : ∀ D ∈ Ds, w.heap.size ≤ D ∧ W.heap[D]? = some (.deferred (some []))
  bel : Below w.heap.size w W
theorem ShJ.move {w : World} {T4 : Nat} {v5 : Value} {L5 Ds : List Nat} {v4 : Value} {W W' : World} (h : ShJ w T4 v5 L5 Ds v4 W) (hB : Below w.heap.size w W')
    (hs : ∀ (i : Nat) (o : Obj), W.heap[i]? = some o → (o.isCells = true ∨ i ∈ Ds) → (∀ cs f, o ≠ .cells cs 26 f) → W'.heap[i]? = some o) : ShJ w T4 v5 L5 Ds v4 W' :=
  ⟨hs T4 _ h.box (.inl rfl) (fun cs f e => by injection e with _ e _; cases e), own_same h.own (fun i cs f e => (hs i _ e (.inl rfl) (fun cs f e => by injection e with _ e _; cases e)).trans e.symm),
    fun D hD => ⟨(h.dd D hD).1, hs D _ (h.dd D hD).2 (.inr hD) (fun cs f e => by cases e)⟩, hB⟩
theorem ShJ.set {w : World} {T4 : Nat} {v5 : Value} {L5 Ds : List Nat} {v4 : Value} {W : World} (h : ShJ w T4 v5 L5 Ds v4 W) (hT : w.heap.size ≤ T4) (v' : Value) : ShJ w T4 v5 L5 Ds v' (W.setCell ⟨T4, 0, none⟩ v') :=
  ⟨h.box.set_ 0 v', own_same h.own (fun i cs f e => Below.heap_setCell W ⟨T4, 0, none⟩ v' i (fun e' => by
      have hb : W.heap[T4]? = some (Obj.cells #[v4] 45 (0, 0)) := h.box
      have e'' : i = T4 := e'
      rw [e'', hb] at e; injection e with e; injection e with _ e _; cases e)),
    fun D hD => ⟨(h.dd D hD).1, (Below.heap_setCell W ⟨T4, 0, none⟩ v' D (fun e' => by
      have hb : W.heap[T4]? = some (Obj.cells #[v4] 45 (0, 0)) := h.box
      have e'' : D = T4 := e'
      have := (h.dd D hD).2
      rw [e'', hb] at this; cases this)).trans (h.dd D hD).2⟩, h.bel.setCell (p := ⟨T4, 0, none⟩) hT _⟩
theorem OwnK.setT {W : World} {T4 base : Nat} {u v v' : Value} {ks : List Nat} (hb : Blk W T4 45 #[u]) (hk : OwnK base W v ks) : OwnK base (W.setCell ⟨T4, 0, none⟩ v') v ks :=
  own_same hk fun i cs f e => Below.heap_setCell W ⟨T4, 0, none⟩ v' i (fun e' => by
      have hb : W.heap[T4]? = some (Obj.cells #[u] 45 (0, 0)) := hb
      have e'' : i = T4 := e'
      rw [e'', hb] at e; injection e with e; injection e with _ e _; cases e)
/-- a row's own block is no other kind of block -/
theorem OwnK.row30 {base : Nat} {w : World} {v : Value} {ks : List Nat} (h : OwnK base w v ks) {i : Nat} {o : Obj} (hi : w.heap[i]? = some o) (ho : ∀ cs f, o ≠ .cells cs 26 f) : some i ≠ v.ownBlock := fun e => by
  rcases h.2 with ⟨e0, _⟩ | ⟨g, cap, cur, e0, _, hb, _⟩
  · rw [e0] at e; cases e
  · rw [e0] at e
    have e' : i = g := Option.some.inj e
    subst e'
    have hb' : w.heap[i]? = some (Obj.cells cur 26 (0, 0)) := hb
    rw [hb'] at hi
    exact ho _ _ (Option.some.inj hi).symm
set_option maxHeartbeats 4000000 in
theorem shape_in (b : Nat) (t : RX) (w : World) (h : RadW (fun _ => True) w b t) (hf : Few t) (hl : (shB t).length ≤ 1000000) : CallsIn Fence.wide 9 Try.prog 29 #[at0 b] w (MadeB (shB t) w) := by
  have hBb : Below w.heap.size w ((w.alloc (.cells #[.pointer (some ⟨b, 0, none⟩)] 26)).alloc (.cells #[.slice (some ⟨w.heap.size, 0, none⟩) 1 1] 45)) := ((Below.refl _ w).alloc (Nat.le_refl _) _).alloc (by simp) _
  have hbox : Blk ((w.alloc (.cells #[.pointer (some ⟨b, 0, none⟩)] 26)).alloc (.cells #[.slice (some ⟨w.heap.size, 0, none⟩) 1 1] 45)) (w.heap.size + 1) 45 #[.slice (some ⟨w.heap.size, 0, none⟩) 1 1] := by
    have := Blk.new (w.alloc (.cells #[.pointer (some ⟨b, 0, none⟩)] 26)) 45 #[.slice (some ⟨w.heap.size, 0, none⟩) 1 1]
    rwa [World.size_alloc] at this
  have hrow : OwnK w.heap.size ((w.alloc (.cells #[.pointer (some ⟨b, 0, none⟩)] 26)).alloc (.cells #[.slice (some ⟨w.heap.size, 0, none⟩) 1 1] 45)) (.slice (some ⟨w.heap.size, 0, none⟩) 1 1) [b] :=
    ⟨rfl, .inr ⟨w.heap.size, 1, #[.pointer (some ⟨b, 0, none⟩)], rfl, Nat.le_refl _, (Blk.new w 26 #[.pointer (some ⟨b, 0, none⟩)]).alloc _, Nat.le_refl _, by unfold maxLen; omega, rfl, rfl⟩⟩
  have HS := Lib.hid (⟨h, hf⟩ : RadW (fun _ => True) w b t ∧ Few t)
  have HL := Lib.hid hl
  clear h hf hl
  unfold at0
  refine callsIn_of_wp_marks Try.func29 rfl trivial ?_ rfl
  simp only [Try.ntmps29, List.size_toArray, List.length_cons, List.length_nil, Nat.reduceAdd, Nat.reduceSub, Array.replicate_succ, Array.replicate_zero, List.push_toArray, List.append_toArray, List.nil_append, List.cons_append]
  gi_wp2
  generalize (w.alloc (.cells #[.pointer (some ⟨b, 0, none⟩)] 26)).alloc (.cells #[.slice (some ⟨w.heap.size, 0, none⟩) 1 1] 45) = W at *
  obtain ⟨T4, hT4⟩ : ∃ T4, T4 = w.heap.size + 1 := ⟨_, rfl⟩
  rw [← hT4] at hbox ⊢
  have hT : w.heap.size ≤ T4 := by omega
  clear hT4
  refine wpIn_loop (fun a' w' => ∃ (u1 u2 u3 u5 u6 u7 u8 u9 u10 u11 u12 u13 u14 u15 u16 u17 u18 u19 u20 u21 u22 u23 u24 u25 u26 u27 u28 u29 u30 u31 u32 u33 u34 u35 u36 u37 u38 u39 u40 : Value) (DS : List Deferred) (st : List (Nat × RX)) (L : List Nat) (v4 : Value) (Ds : List Nat), ShR w T4 (shB t) u3 DS st L v4 Ds w' ∧ a' = { tmps := #[.pointer (some ⟨b, 0, none⟩), u1, u2, u3, .pointer (some ⟨T4, 0, none⟩), u5, u6, u7, u8, u9, u10, u11, u12, u13, u14, u15, u16, u17, u18, u19, u20, u21, u22, u23, u24, u25, u26, u27, u28, u29, u30, u31, u32, u33, u34, u35, u36, u37, u38, u39, u40], defers := DS })
    (fun a' _ => 1000001 - sliceLen (a'.tmps.getD 3 undef)) ?start ?round
  case start =>
    refine ⟨_, _, _, _, _, _, _, _, _, _, _, _, _, _, _, _, _, _, _, _, _, _, _, _, _, _, _, _, _, _, _, _, _, _, _, _, _, _, _, [], [(b, t)], [], .slice (some ⟨w.heap.size, 0, none⟩) 1 1, [], ⟨OwnB.nil _ _, hbox, hrow, fun e he => by rw [List.mem_singleton] at he; subst he; exact HS.out, by simp [shBL], rfl, List.nodup_nil, fun _ h => by simp at h, hBb⟩, rfl⟩
  case round =>
    clear hBb hbox hrow
    rintro a' wr ⟨u1, u2, u3, u5, u6, u7, u8, u9, u10, u11, u12, u13, u14, u15, u16, u17, u18, u19, u20, u21, u22, u23, u24, u25, u26, u27, u28, u29, u30, u31, u32, u33, u34, u35, u36, u37, u38, u39, u40, DS, st, L, v4, Ds, hR, rfl⟩
    obtain ⟨ho, hbx, hrow, htr, hsum, hds, hnod, hdd, hB⟩ := hR
    have c4 := hbx.cell 0
    by_cases hst : st = []
    · subst hst
      obtain ⟨A, c, hu4⟩ : ∃ A c, v4 = .slice A 0 c := by
        rcases hrow.2 with ⟨e, h0⟩ | ⟨g', cap, cur, e, _⟩
        · exact ⟨none, 0, e⟩
        · exact ⟨_, _, e⟩
      subst hu4
      have hLT : L = shB t := by rw [← hsum]; simp [shBL]
      subst hds
      have HO := Lib.hid ho
      have HB := Lib.hid hB
      have HDD := Lib.hid hdd
      have HN := Lib.hid hnod
      have HLT := Lib.hid hLT
      clear htr hrow hbx hsum ho hB hdd hnod hLT
      gi_wp2
      show LeavesInM _ _ _ _ _ _ _ .returning wr
      refine leavesM_all (fun W => OwnB w.heap.size W u3 L ∧ Below w.heap.size w W) (fun D => w.heap.size ≤ D) (fun W D hD ⟨h1, h2⟩ h3 => ⟨ownsRow_putObj h1 _ h3 rfl, h2.trans (belowK_b (w := w) (Nat.le_refl _) W D _ _ hD h3 rfl rfl)⟩) (fun W ⟨h1, h2⟩ => ?_) Ds wr HN.out HDD.out ⟨HO.out, HB.out⟩
      refine ⟨u3, ?_, u3, rfl, by rw [← HLT.out]; exact h1, h2⟩
      simp [results, Try.f29, go_sem]
    · obtain ⟨r, e, rfl⟩ : ∃ r e, st = r ++ [e] := ⟨st.dropLast, st.getLast hst, (List.dropLast_concat_getLast hst).symm⟩
      rw [List.map_append] at hrow
      obtain ⟨g, cap, e4, hlt4, hcap, hc4⟩ := OwnK.atK hrow r.length e.1 (by simp)
      have hlen4 : (List.map (fun x => x.1) r ++ List.map (fun x => x.1) [e]).length = r.length + 1 := by simp
      rw [hlen4] at e4 hcap
      subst e4
      obtain ⟨hRW, hFew⟩ := htr e (by simp)
      have hshort := (show OwnK w.heap.size wr (.slice (some ⟨g, 0, none⟩) (r.length + 1) cap) (r.map (·.1) ++ [e.1]) from hrow).shorter (by simp)
      have heL := hRW.lt
      obtain ⟨kv, bs, hN, hKd⟩ : ∃ kv bs, Nod 0 w e.1 e.2 kv bs ∧ ∀ (i c : Nat) (k : RX), bs[i]? = some c → e.2.kids[i]? = some k → RadW (fun _ => True) w c k := by
        cases hRW with | mk a1 a2 a3 a4 => exact ⟨_, _, a1, a4⟩
      have hlz : bs.length = e.2.kids.length := hN.len
      have hbl : bs.length ≤ 800 := by cases hFew with | mk h1 _ => omega
      have hFk : ∀ k ∈ e.2.kids, Few k := by cases hFew with | mk _ h2 => exact h2
      have hsumE : (L ++ headB e.2) ++ shBL ((r ++ (bs.zip e.2.kids).reverse).reverse.map (·.2)) = shB t := by
        rw [← hsum, List.reverse_append, List.reverse_append, List.reverse_reverse, List.map_append, List.map_append, zip_snd _ _ hlz, shBL_append, shBL_append]
        simp [shBL_cons, shB_eq e.2, shBL]
      have hlenT : L.length + (headB e.2).length + (r.length + bs.length) ≤ (shB t).length := by
        rw [← hsumE, List.length_append, List.length_append]
        have := shBL_len ((r ++ (bs.zip e.2.kids).reverse).reverse.map (·.2))
        rw [List.length_map, List.length_reverse, List.length_append, List.length_reverse, List.length_zip] at this
        omega
      have hTl := HL.out
      have hs3 : sliceLen u3 = L.length := by obtain ⟨A, c, h⟩ := own_formN ho; rw [h]; rfl
      have hhd := headB_pos e.2
      obtain ⟨A, c, hkv⟩ : ∃ A c, kv = .slice A bs.length c := by
        rcases hN.row.2 with ⟨e, h0⟩ | ⟨g, cap, cur, e, _⟩
        · exact ⟨none, 0, by rw [e, h0]⟩
        · exact ⟨_, _, e⟩
      subst hkv
      have kap := appended_any 0 w.heap.size e.1 e.2 _ u3 bs L wr (hN.stay hB) heL hB.size ho (by omega) (by omega) (by omega)
      obtain ⟨N, hNe⟩ : ∃ N, N = bs.length := ⟨_, rfl⟩
      obtain ⟨K, hK⟩ : ∃ K, K = r.length := ⟨_, rfl⟩
      obtain ⟨K1, hK1⟩ : ∃ K1, K1 = r.length + 1 := ⟨_, rfl⟩
      have hKN : K + N ≤ 1000000 := by omega
      have HSE := Lib.hid hsumE
      have HME := Lib.hid (show (L ++ headB e.2).length ≤ 1000000 ∧ L.length < (L ++ headB e.2).length by rw [List.length_append]; omega)
      rw [← hK1] at hcap c4 hbx
      rw [← hK] at hc4 hshort
      have L1 : (0 : Int) < (K1 : Int) := by omega
      have L2 : IntKind.i64.wrap ((K1 : Int) - 1) = (K : Int) := by rw [IntWalk.i64_in _ (by omega)]; omega
      have L3 : (K : Int) < (K1 : Int) := by omega
      have L4 : K ≤ cap := by omega
      have HK := Lib.hid hK
      have HNE := Lib.hid hNe
      have HLZ := Lib.hid hlz
      have HS3 := Lib.hid hs3
      have HDS := Lib.hid hds
      have HNOD := Lib.hid hnod
      have HDD := Lib.hid hdd
      have HKD := Lib.hid hKd
      have HFK := Lib.hid hFk
      have HTR := Lib.hid (fun x (hx : x ∈ r) => htr x (by simp [hx]))
      have HN := Lib.hid hN
      have HBX := Lib.hid hbx
      have HB := Lib.hid hB
      unfold at0 at hc4 kap
      rw [← hNe] at HN
      clear htr hsum hsumE hlenT hTl hs3 hhd hK hK1 hNe hlz hFew hFk hKd hN hbx hnod hdd hds ho hrow hlen4 hlt4 hst hRW hB hbl
      gi_wp2
      refine ⟨trivial, (callsIn_wide.2 kap).mono ?_⟩
      rintro e' W1 ⟨v5, rfl, ho5, hB1, hq1⟩
      have hbx1 := hq1.blk HBX.out (by decide)
      have hJ1 : ShJ w T4 v5 (L ++ headB e.2) Ds _ W1 := ⟨hbx1, ho5, fun D hD => ⟨(HDD.out D hD).1, (hq1.block D (Array.getElem?_eq_some_iff.1 (HDD.out D hD).2).1 (fun cs f e => by rw [(HDD.out D hD).2] at e; cases e)).trans (HDD.out D hD).2⟩, HB.out.trans hB1⟩
      have hsh1 := hq1.rowK hshort
      have hJ2 := hJ1.set hT (.slice (some ⟨g, 0, none⟩) K cap)
      have hsh2 := hsh1.setT (v' := .slice (some ⟨g, 0, none⟩) K cap) hbx1
      have c41 := hbx1.cell 0
      have f41 := hbx1.frozen 0
      have HJ1 := Lib.hid hJ1
      have HSH1 := Lib.hid hsh1
      clear kap hc4 hshort c4 ho5 hq1 hB1 hJ1 hsh1 hbx1
      obtain ⟨o, lab, val, sh, e1, e2, hBn, d0, d1, d2, d3, d4, d5⟩ := (HN.out.stay hJ2.bel).cells
      clear e1 e2 d0 d1 d2 d3 d5 hBn
      have HJ2 := Lib.hid hJ2
      have HSH2 := Lib.hid hsh2
      clear hJ2 hsh2
      gi_wp2
      refine ⟨trivial, (callsIn_wide.2 (Its.back_any _ _ _ _)).mono ?_⟩
      rintro e' w' ⟨rfl, rfl⟩
      gi_wp2
      have hJ2 := HJ2.out
      have hs2 := HSH2.out
      have hsz1 : W1.heap.size = (W1.setCell ⟨T4, 0, none⟩ (.slice (some ⟨g, 0, none⟩) K cap)).heap.size := by simp [World.setCell]
      clear HJ2 HSH2 HJ1 HSH1 c41 f41 d4
      rw [hsz1]
      clear hsz1
      generalize W1.setCell ⟨T4, 0, none⟩ (.slice (some ⟨g, 0, none⟩) K cap) = W2 at *
      have b3 : Blk (W2.alloc (.cells #[.slice A N c] 45)) W2.heap.size 45 #[.slice A N c] := Blk.new W2 45 #[.slice A N c]
      have hB3 : Below W2.heap.size W2 (W2.alloc (.cells #[.slice A N c] 45)) := (Below.refl _ W2).alloc (Nat.le_refl _) _
      have hBw3 := hJ2.bel.trans (hB3.mono hJ2.bel.size)
      have hJ3 := hJ2.move hBw3 (fun i o h _ _ => (Below.heap_alloc W2 _ i (Array.getElem?_eq_some_iff.1 h).1).trans h)
      have hsh3 := hs2.stay hB3
      have hN3 := (HN.out.stay hBw3).row
      have hTB : W2.heap.size ≠ T4 := by have := hJ2.box.lt; omega
      clear hJ2 hs2 hB3
      generalize W2.alloc (.cells #[.slice A N c] 45) = W3 at *
      generalize W2.heap.size = Bs at *
      have hD3 : ∀ D ∈ Ds, D < W3.heap.size := fun D hD => (Array.getElem?_eq_some_iff.1 (hJ3.dd D hD).2).1
      have hM3 := hBw3.size
      have hrl : (r.map (·.1)).length = K := by rw [List.length_map, HK.out]
      have hbN : bs.length = N := HNE.out.symm
      refine wpIn_rangeFunc_ownG rfl (by decide) (gf := 61) (lb := #[.pointer (some ⟨Bs, 0, none⟩)]) rfl trivial (enters_of Try.func61 (by kernel_rfl) rfl)
        (Its.back_stops (9 - 1) Bs w.heap.size 0 (.slice A N c) bs (by decide) (by omega) W3 b3 hM3 hN3 (fun g hg => OwnK.lt HN.out.row hg)) Its.KpK_t (Its.KpK_b hM3 b3.lt) (Below.refl _ _) (fun _ => rfl)
        (fun pre W => (∃ v4, ShJ w T4 v5 (L ++ headB e.2) Ds v4 W ∧ OwnK w.heap.size W v4 (r.map (·.1) ++ pre.map (·.2))) ∧ Blk W Bs 45 #[.slice A N c])
        (fun _ _ _ => False) ?ownI (fun _ => fun s X Y row hs _ _ => hs) ⟨⟨_, hJ3, by simpa using hsh3⟩, b3⟩
        (fun x => { tmps := #[.pointer (some ⟨b, 0, none⟩), u1, u2, v5, .pointer (some ⟨T4, 0, none⟩), .pointer (some ⟨e.1, 0, none⟩), u6, .pointer (some ⟨x.2, 0, none⟩), u8, u9, u10, u11, .slice (some ⟨g, 0, none⟩) K1 cap, .int .i64 K1, .bool true, .slice (some ⟨g, 0, none⟩) K1 cap, .slice (some ⟨g, 0, none⟩) K1 cap, .int .i64 K1, .int .i64 K, .pointer (some ⟨g, K, none⟩), .pointer (some ⟨e.1, 0, none⟩), .pointer (some ⟨e.1, 0, none⟩), u3, v5, .slice (some ⟨g, 0, none⟩) K1 cap, .slice (some ⟨g, 0, none⟩) K1 cap, .int .i64 K1, .int .i64 K, .slice (some ⟨g, 0, none⟩) K cap, .pointer (some ⟨e.1, 0, none⟩), .pointer (some ⟨e.1, 0, none⟩), .pointer (some ⟨e.1, 4, none⟩), .slice A N c, .func (.func 61) #[] #[.pointer (some ⟨Bs, 0, none⟩)], .int .i64 x.1, .pointer (some ⟨x.2, 0, none⟩), u36, u37, u38, u39, u40], defers := [] }) ?assign ?body ?done ?stop
      case ownI =>
        rintro pre X Y row ⟨⟨v4, hJ, hk⟩, hb⟩ hg hr
        have hrow : ∀ (i : Nat) (o : Obj), X.heap[i]? = some o → (o.isCells = true ∨ i ∈ Ds) → Y.heap[i]? = some o := fun i o hi ho => (hg.block i (Array.getElem?_eq_some_iff.1 hi).1 (fun e => by
          obtain ⟨h1, o', h2, h3⟩ := hr i e.symm
          rw [hi] at h2
          rcases ho with ho | ho
          · rw [Option.some.inj h2, h3] at ho; cases ho
          · have := hD3 i ho; omega)).trans hi
        exact ⟨⟨v4, hJ.move ((ownFrom_below (β := Unit) (Nat.le_refl _) hM3) () X Y row hJ.bel hg hr) (fun i o h1 h2 _ => hrow i o h1 h2), own_same hk (fun i cs f e => (hrow i _ e (.inl rfl)).trans e.symm)⟩, hrow Bs _ hb (.inl rfl)⟩
      case assign =>
        intro l x W K hK
        gi_wp2
        exact hK
      case body =>
        rintro l pre x W ⟨⟨v4, hJ, hk⟩, hb⟩ hlt
        obtain ⟨i0, hi, hz0, hz1, hz2⟩ := info_parts info30
        have c4 := hJ.box.cell 0
        have f4 := hJ.box.frozen 0
        have hBa := (Below.refl _ W).alloc (Nat.le_refl _) (.cells #[.pointer (some ⟨x.2, 0, none⟩)] 26)
        have hJa := hJ.move (hJ.bel.trans (hBa.mono hJ.bel.size)) (fun i o h _ _ => (Below.heap_alloc W _ i (Array.getElem?_eq_some_iff.1 h).1).trans h)
        have hka := hk.stay hBa
        have hba := hb.stay hBa
        obtain ⟨A4, c4', hv4⟩ := own_formN hk
        subst hv4
        obtain ⟨ks, hks⟩ : ∃ ks, ks = r.map (·.1) ++ pre.map (·.2) := ⟨_, rfl⟩
        have hlen : ks.length ≤ 1000000 := by rw [hks, List.length_append, hrl, List.length_map]; omega
        have hks2 : r.map (·.1) ++ (pre ++ [x]).map (·.2) = ks ++ [x.2] := by rw [hks]; simp
        rw [← hks] at hka c4 hJ hJa
        have hsz := hJa.bel.size
        have HJA := Lib.hid hJa
        have HKA := Lib.hid hka
        have HBA := Lib.hid hba
        have HBB := Lib.hid hBa
        have HKS := Lib.hid hks2
        have HB' := Lib.hid hb
        have HSZ := Lib.hid hJ.bel.size
        clear hJ hk hb hBa hJa hks hks2 hba hrl hbN hD3 hlt hN3 hBw3 hJ3 hsh3 b3
        gi_wp2_with (gi_at_builtin; refine wpListIn_append_own _ rfl _ _ 45 rfl w.heap.size 26 i0 _ 1 8 Try.underlying45 hi hz0 hz1 hz2 zsz_kids (by decide) (.slice A4 ks.length c4') ks.length (kcs ks) rfl hka ⟨W.heap.size, 0, none⟩ 1 1 [.pointer (some ⟨x.2, 0, none⟩)] rfl rfl (cell_one_new _ _ _) (by simp [Value.oneCell']) (by unfold maxLen; omega) (by omega) hsz ?_; intro v' w1 hown' hgrow _; obtain ⟨g', cap', rfl⟩ := ownsRow_succ hown'; have hJ1 := HJA.out.move (HJA.out.bel.grown hgrow hsz (own_ge HKA.out)) (fun i o h _ ho => (hgrow.block i (Array.getElem?_eq_some_iff.1 h).1 (HKA.out.row30 h ho)).trans h); have q4 := hJ1.box.cell 0; have q5 := hJ1.box.frozen 0)
        have hks3 := HKS.out
        have hrow : OwnK w.heap.size w1 (.slice (some ⟨g', 0, none⟩) (ks.length + 1) cap') (ks ++ [x.2]) := by
          unfold OwnK
          rw [List.length_append, show kcs (ks ++ [x.2]) = kcs ks ++ [.pointer (some ⟨x.2, 0, none⟩)] by simp [kcs, at0]]
          exact hown'
        have hJ2 := hJ1.set hT (.slice (some ⟨g', 0, none⟩) (ks.length + 1) cap')
        have hb1 : Blk w1 Bs 45 #[.slice A N c] := (hgrow.block Bs HBA.out.lt (HKA.out.row30 HBA.out (fun cs f e => by injection e with _ e _; cases e))).trans HBA.out
        have hb2 := hb1.far (p := ⟨T4, 0, none⟩) hTB (.slice (some ⟨g', 0, none⟩) (ks.length + 1) cap')
        refine ⟨KeepsOthers.from ((KeepsOthers.alloc W _).trans ((KeepsOthers.of_grownBy hgrow ?_).trans (KeepsOthers.setCell _ _ _))) _, ⟨?_, ?_⟩, ⟨_, hJ2, by rw [hks3]; exact hrow.setT hJ1.box⟩, hb2⟩
        · intro j o hj ho
          rcases HKA.out.2 with ⟨e0, _⟩ | ⟨g0, cap0, cur, e0, _, hbb, _⟩
          · rw [e0] at hj; cases hj
          · rw [e0] at hj
            have e' : g0 = j := Option.some.inj hj
            subst e'
            have hb' : (W.alloc (.cells #[.pointer (some ⟨x.2, 0, none⟩)] 26)).heap[g0]? = some (Obj.cells cur 26 (0, 0)) := hbb
            rw [hb'] at ho
            rw [← Option.some.inj ho]; rfl
        · exact ((HBB.out.mono HSZ.out).grown hgrow hsz (own_ge HKA.out)).setCell (p := ⟨T4, 0, none⟩) hT _
        · exact Eq.trans hb2 (Eq.symm HB'.out)
      case done =>
        rintro D ys W hD hys ⟨⟨v4, hJ, hk⟩, hb⟩ hK
        gi_wp2
        have hst2 : (r ++ (bs.zip e.2.kids).reverse).map (·.1) = r.map (·.1) ++ ys.map (·.2) := by
          rw [List.map_append, List.map_reverse, zip_fst _ _ HLZ.out, hys]
        refine ⟨⟨_, _, _, _, _, _, _, _, _, _, _, _, _, _, _, _, _, _, _, _, _, _, _, _, _, _, _, _, _, _, _, _, _, _, _, _, _, _, _, _, r ++ (bs.zip e.2.kids).reverse, L ++ headB e.2, v4, D :: Ds, ⟨hJ.own, hJ.box, by rw [hst2]; exact hk, ?tr, HSE.out, by rw [HDS.out]; rfl, ?nod, ?dd, hJ.bel⟩, rfl⟩, ?meas⟩
        case tr =>
          intro x hx
          rcases List.mem_append.1 hx with h | h
          · exact HTR.out x h
          · obtain ⟨i, hi, he⟩ := List.mem_iff_getElem.1 (List.mem_reverse.1 h)
            rw [List.length_zip] at hi
            rw [List.getElem_zip] at he
            have hlz := HLZ.out
            have hkm : e.2.kids[i]'(by omega) ∈ e.2.kids := List.getElem_mem _
            rw [← he]
            exact ⟨HKD.out i _ _ (List.getElem?_eq_getElem (by omega)) (List.getElem?_eq_getElem (by omega)), HFK.out _ hkm⟩
        case nod => exact List.nodup_cons.2 ⟨fun h => by have := hD3 D h; omega, HNOD.out⟩
        case dd =>
          intro D' hD'
          rcases List.mem_cons.1 hD' with h | h
          · rw [h]; exact ⟨by omega, hK⟩
          · exact hJ.dd D' h
        case meas =>
          have h5 : sliceLen v5 = (L ++ headB e.2).length := by obtain ⟨A, c, h⟩ := own_formN hJ.own; rw [h]; rfl
          have h3 := HS3.out
          have hm := HME.out
          show 1000001 - sliceLen v5 < 1000001 - sliceLen u3
          rw [h5, h3]
          omega
      case stop =>
        rintro D c' pre W hD hpre hf hK
        exact hf.elim
/-- Shape of a tree -/
theorem shape_any (b : Nat) (t : RX) (w : World) (h : RadW (fun _ => True) w b t) (hf : Few t) (hl : (shB t).length ≤ 1000000) : Calls Try.prog 29 #[at0 b] w (MadeB (shB t) w) :=
  callsIn_wide.1 (shape_in b t w h hf hl)
end Go.Proofs.Ytchimfgbdfmegab
/- The law's tree: a tree is the tree of its pairs. -/
namespace Go.Proofs.Ytchimfgbdfmegab
open Go.RowKit Go.Lib
set_option linter.unusedVariables false
set_option maxRecDepth 100000
set_option linter.unnecessarySimpa false
set_option linter.unusedSimpArgs false
set_option linter.unnecessarySimpa false
set_option maxRecDepth 100000
theorem cn_prs (t : RX) : cn t = (prs t).length := by
  rw [prs_kids, List.length_append, cn_eq, List.length_map]
  unfold prL
  rw [List.length_map, bodyL_len]
/-- what bounds a tree -/
structure TBnd (t : RX) : Prop where
  can : Can t
  lab : t.lab = []
  shrt : Shrt 1000 t
  len : (prs t).length ≤ 1000
  keys : ∀ p ∈ prs t, p.1.size ≤ 1000
  sh : (shB t).length ≤ 1000000
  nd : nd t ≤ 100000
  wt : wt t ≤ 300000
set_option maxHeartbeats 2000000 in
theorem tree_any (b : Nat) (t : RX) (A : Option Addr) (c : Nat) (w : World) (h : RadW (fun _ => True) w b t) (hb : TBnd t) (hR : Rd w A (prs t)) (hcap : (prs t).length ≤ c) :
    Calls Try.prog 14 #[at0 b, .slice A (prs t).length c] w fun e w' => e = .returned (.bool true) ∧ Below w.heap.size w w' := by
  have hf := hb.can.few
  have kof := of_any t hb.can hb.lab A c w hR hb.len hcap hb.keys
  have hcn := cn_prs t
  have hln := hb.len
  have HB := Lib.hid hb
  have HF := Lib.hid hf
  have HR := Lib.hid h
  have klike := fun (r : Nat) (W : World) (hW : Below w.heap.size w W) (hr : RefW (fun x => w.heap.size ≤ x) W r t) => like_any t hf _ _ b r W (h.stay hW) hr
  have klen := fun (W : World) (hW : Below w.heap.size w W) => len_any b t W (h.stay hW) hf (by omega) hb.wt
  have kshp := fun (W : World) (hW : Below w.heap.size w W) => shape_any b t W (h.stay hW) hf hb.sh
  have kref := fun (r : Nat) (W : World) (hr : RefW (fun x => w.heap.size ≤ x) W r t) => refShape_any t hf hb.sh _ r W hr
  have kcan := fun (W : World) (hW : Below w.heap.size w W) => canon_true b t W (h.stay hW) hb.can hb.shrt hb.lab hb.nd
  have KL := Lib.hid klike
  have KN := Lib.hid klen
  have KS := Lib.hid kshp
  have KR := Lib.hid kref
  have KC := Lib.hid kcan
  rw [← hcn] at kof ⊢
  clear klike klen kshp kref kcan h hf hb hR hcap hcn hln
  unfold at0
  go_enter Try.func14, Try.ntmps14
  go_wp2_with fail
  refine kof.mono ?_
  rintro e w1 ⟨r, rfl, hr1, hB1⟩
  have k1 := KL.out r w1 hB1 hr1
  unfold at0 at k1 ⊢
  clear kof
  go_wp2_with fail
  refine k1.mono ?_
  rintro e w2 ⟨rfl, hB2⟩
  have hr2 := hr1.stay hB2
  have hB12 := hB1.trans (hB2.mono hB1.size)
  have k2 := KN.out w2 hB12
  unfold at0 at k2
  clear k1 hr1 hB2
  go_wp2_with fail
  refine k2.mono ?_
  rintro e w3 ⟨rfl, hB3⟩
  have hr3 := hr2.stay hB3
  have hB13 := hB12.trans (hB3.mono hB12.size)
  have k3 := KS.out w3 hB13
  unfold at0 at k3
  clear k2 hr2 hB3
  go_wp2_with fail
  refine k3.mono ?_
  rintro e w4 ⟨v4, rfl, ho4, hB4⟩
  have hr4 := hr3.stay hB4
  have hB14 := hB13.trans (hB4.mono hB13.size)
  have k4 := KR.out r w4 hr4
  unfold at0 at k4
  clear k3 hr3 hB4
  go_wp2_with fail
  refine k4.mono ?_
  rintro e w5 ⟨v5, rfl, ho5, hB5⟩
  have hB15 := hB14.trans (hB5.mono hB14.size)
  have k5 := refSameB_any w3.heap.size w4.heap.size v4 v5 (shB t) (shB t) w5 (ho4.below hB5) ho5 (by have := HB.out.sh; omega)
  rw [show decide (shB t = shB t) = true by simp] at k5
  clear k4 hr4 hB5 ho4 ho5
  go_wp2_with fail
  refine k5.mono ?_
  rintro e w6 ⟨rfl, n, rfl⟩
  have hB16 := hB15.trans ((below_drewK w5 n).mono hB15.size)
  have k6 := KC.out (w5.drewN n) hB16
  unfold at0 at k6
  clear k5
  go_wp2_with fail
  refine k6.mono ?_
  rintro e w7 ⟨rfl, hB7⟩
  have hB17 := hB16.trans (hB7.mono hB16.size)
  clear k6
  go_wp2_with fail
  go_ret
  exact ⟨rfl, hB17⟩
end Go.Proofs.Ytchimfgbdfmegab
