/- put: a new child. -/
import Derived.Test.YtimhdegdmdilaaaHag
namespace Go.Proofs.Ytimhdegdmdilaaa
open Go.RowKit Go.Lib
set_option linter.unusedVariables false
set_option maxRecDepth 100000
set_option linter.unusedSimpArgs false
set_option linter.unnecessarySimpa false
set_option maxRecDepth 100000
theorem ins_one (base Q vb b' : Nat) (kv : Value) (bs : List Nat) (w : World) (h : OwnK base w kv bs) (hQ : Q ≤ bs.length) (hn : bs.length ≤ 900) (hv : Blk w vb 24 #[at0 b']) (hb : base ≤ w.heap.size) (hne : kv.ownBlock ≠ some vb) :
    Calls Try.prog 100 #[kv, .int .i64 Q, .slice (some ⟨vb, 0, none⟩) 1 1] w fun e w' => ∃ v', e = .returned v' ∧ OwnK base w' v' (insAt bs Q b') ∧ (v'.ownBlock = kv.ownBlock ∨ v'.ownBlock = some w.heap.size) ∧ Keep kv.ownBlock.toList w w' := by
  refine (ins_kids base Q bs.length 1 vb kv (kcs bs) [at0 b'] w h hQ (by decide) (by omega) (kcs_one bs) (by simp [at0, Value.oneCell']) hv rfl hb hne).mono ?_
  rintro e w' ⟨v', rfl, ho, hat, hK⟩
  refine ⟨v', rfl, ?_, hat, hK⟩
  rw [kcs_ins] at ho
  unfold OwnK
  rw [insAt_len bs Q b' hQ]
  exact ho
theorem insAt_get {bs : List Nat} {ks : List RX} {Q b c i : Nat} {u k : RX} (hl : bs.length = ks.length) (hQ : Q ≤ bs.length) (h1 : (insAt bs Q b)[i]? = some c) (h2 : (insAt ks Q u)[i]? = some k) : (c = b ∧ k = u) ∨ ∃ j : Nat, bs[j]? = some c ∧ ks[j]? = some k := by
  unfold insAt at h1 h2
  rcases Nat.lt_trichotomy i Q with h | h | h
  · rw [List.getElem?_append_left (by simp; omega), List.getElem?_take, if_pos h] at h1 h2
    exact .inr ⟨i, h1, h2⟩
  · subst h
    rw [List.getElem?_append_right (by simp; omega)] at h1 h2
    simp only [List.length_take] at h1 h2
    rw [show i - min i bs.length = 0 by omega] at h1
    rw [show i - min i ks.length = 0 by omega] at h2
    simp at h1 h2
    exact .inl ⟨h1.symm, h2.symm⟩
  · rw [List.getElem?_append_right (by simp; omega)] at h1 h2
    simp only [List.length_take] at h1 h2
    rw [show i - min Q bs.length = (i - Q - 1) + 1 by omega, List.getElem?_cons_succ, List.getElem?_drop] at h1
    rw [show i - min Q ks.length = (i - Q - 1) + 1 by omega, List.getElem?_cons_succ, List.getElem?_drop] at h2
    exact .inr ⟨_, h1, h2⟩
theorem late_no {b : Bool} {p : Prop} (h : b = true) : b = false → p := fun e => by rw [h] at e; cases e
theorem keepN {w w' : World} {m X : Nat} {v4 x : Value} (h : w.cell? ⟨m, 4, none⟩ = some v4 ∧ w.cell? ⟨X, 0, none⟩ = some x) (hb : Below w.heap.size w w') :
    w'.cell? ⟨m, 4, none⟩ = some v4 ∧ w'.cell? ⟨X, 0, none⟩ = some x := keep2 h hb
theorem keepK {w w' : World} {m X : Nat} {Y : List Nat} {v4 x : Value} (h : w.cell? ⟨m, 4, none⟩ = some v4 ∧ w.cell? ⟨X, 0, none⟩ = some x) (hb : Keep Y w w') (h1 : m ∉ Y) (h2 : X ∉ Y) :
    w'.cell? ⟨m, 4, none⟩ = some v4 ∧ w'.cell? ⟨X, 0, none⟩ = some x := by
  have e1 := hb.block m (World.block_lt_of_cell? w _ h.1) h1
  have e2 := hb.block X (World.block_lt_of_cell? w _ h.2) h2
  exact ⟨(by simp only [World.cell?, e1] : w'.cell? ⟨m, 4, none⟩ = w.cell? ⟨m, 4, none⟩).trans h.1, (by simp only [World.cell?, e2] : w'.cell? ⟨X, 0, none⟩ = w.cell? ⟨X, 0, none⟩).trans h.2⟩
theorem lab_ne {rest : ByteArray} {x : UInt8} {s : List UInt8} (h : rest.data.toList = x :: s) : (rest.toList == ([] : List UInt8)) = false := by
  have : rest.toList ≠ [] := fun e => by rw [ByteArray.toList_eq, h] at e; cases e
  simpa using this
theorem byte0 {rest : ByteArray} {x : UInt8} {s : List UInt8} (h : rest.data.toList = x :: s) : ∃ hp : 0 < rest.size, rest[0] = x := by
  have hs : rest.data.toList.length = rest.size := by rw [Array.length_toList]; rfl
  have hp : 0 < rest.size := by rw [← hs, h]; simp only [List.length_cons]; omega
  refine ⟨hp, ?_⟩
  have : rest.data.toList[0]? = some x := by rw [h]; rfl
  rw [List.getElem?_eq_some_iff] at this
  exact this.2
theorem keepB {w w' : World} {m X B : Nat} {v4 x : Value} (h : w.cell? ⟨m, 4, none⟩ = some v4 ∧ w.cell? ⟨X, 0, none⟩ = some x) (hb : Below B w w') (h1 : m < B) (h2 : X < B) :
    w'.cell? ⟨m, 4, none⟩ = some v4 ∧ w'.cell? ⟨X, 0, none⟩ = some x := ⟨(hb.cell h1).trans h.1, (hb.cell h2).trans h.2⟩
theorem Nod.belowAt {base B : Nat} {w w' : World} {b : Nat} {t : RX} {kv : Value} {bs : List Nat} (h : Nod base w b t kv bs) (hb : Below B w w') (h1 : b < B) (h2 : ∀ g, kv.ownBlock = some g → g < B) : Nod base w' b t kv bs := by
  obtain ⟨X, hk, hX⟩ := keep_of hb
  exact h.keep hk (fun hm => by have := (hX b hm).1; omega) fun g hg hm => by have := h2 g hg; have := (hX g hm).1; omega
theorem Blk.belowAt {B : Nat} {w w' : World} {b : Nat} {t : TypeId} {cs : Array Value} (h : Blk w b t cs) (hb : Below B w w') (h1 : b < B) : Blk w' b t cs := (hb.block b h1).trans h
theorem leaf_uniq {u : RX} {r : List UInt8} {value : ByteArray} (hc : Can u) (hl : u.lab = r) (hi : InsX [] value (.node r none []) u) : u = .node r (some value) [] := by
  have hc2 : Can (.node r (some value) []) := .mk (by simp) (by simp) (by simp)
  have := can_uniq u (.node r (some value) []) hc hc2 fun x => by
    rw [hi x, body_mem, body_mem]
    simp only [RX.val, RX.kids, List.not_mem_nil, false_and, exists_false, or_false]
    constructor
    · rintro (h | ⟨⟨_, h⟩, _⟩)
      · rw [h]; exact ⟨rfl, rfl⟩
      · cases h
    · rintro ⟨h1, h2⟩
      exact .inl (Prod.ext h1 (Option.some.inj h2).symm)
  exact RX.ext hl this.1 this.2
set_option maxHeartbeats 8000000 in
theorem put_new (P : Nat → Prop) (base b : Nat) (ours : Bool) (l : List UInt8) (v : Option ByteArray) (ks : List RX) (tv : Value) (rest value : ByteArray) (x : UInt8) (s : List UInt8) (w : World) (hd : DeadT base w tv) (hb : base ≤ w.heap.size) (h : Src P base w ours b (.node l v ks)) (hc : Can (.node l v ks)) (hP : ∀ x, base ≤ x → P x)
    (hr : rest.data.toList = x :: s) (hi : isR ks (x.toNat + 1) = false) (hs : ∀ k ∈ ks, k.lab.length ≤ 1000) :
    Calls Try.prog 83 #[.agg #[tv], at0 b, .bool ours, .string rest, .string value] w (PutPost P base ours b (.node l v ks) rest.data.toList value w) := by
  have hB1 := (Below.refl _ w).alloc (Nat.le_refl _) (.cells #[tv] 126)
  have hX1 := Blk.new w 126 #[tv]
  have hs1 : Src P base (w.alloc (.cells #[tv] 126)) ours b (.node l v ks) := by
    rcases h with ⟨e, h⟩ | ⟨e, h⟩
    · exact .inl ⟨e, h.below hB1⟩
    · exact .inr ⟨e, h.stay hB1⟩
  have hd1 := hd.stay hB1
  have ko := own_any P base b ours _ tv _ hd1 (Nat.le_trans hb hB1.size) hs1 (by have := kids_few hc; omega)
  have hkf : ks.length ≤ 257 := kids_few hc
  have hz := lab_ne hr
  obtain ⟨hp0, hget⟩ := byte0 hr
  have hpos : (0 : Int) < (rest.size : Int) := by omega
  obtain ⟨X, hXe⟩ : ∃ X, X = w.heap.size := ⟨_, rfl⟩
  obtain ⟨a, rfl⟩ := hd.form
  rw [← hXe] at hX1
  have HX := Lib.hid hXe
  have HI := Lib.hid hi
  have HR := Lib.hid hr
  have HS := Lib.hid hs
  have HC := Lib.hid hc
  have HP0 := Lib.hid hp0
  clear h hs1 hd hi hs hc hr hXe
  unfold at0 at ko ⊢
  go_enter Try.func83, Try.ntmps83
  go_wp2_with fail
  refine ko.mono ?_
  rintro e w1 ⟨m, rfl, hmb, hm, hB2⟩
  have HMB := Lib.hid hmb
  clear hmb
  obtain ⟨kv, bs, hN, hmg, hk⟩ := hm.ex
  have kp := place_any (fun x => P x ∧ x ≠ m ∧ kv.ownBlock ≠ some x) base m _ kv bs x w1 hN hk HC.out HS.out
  rw [show (RX.node l v ks).kids = ks from rfl, HI.out] at kp
  have hXw : X < w.heap.size + 1 := by rw [HX.out]; omega
  clear ko
  unfold at0 at kp ⊢
  go_wp2_with fail
  refine kp.mono ?_
  rintro e w2 ⟨rfl, hB3⟩
  have hQ : posR ks (x.toNat + 1) ≤ bs.length := by rw [hN.len]; exact posR_le _ _
  have hstep := fun s => step_new (w := value) (s := s) HC.out HI.out
  rw [← HX.out]
  obtain ⟨Q, hQe⟩ : ∃ Q, Q = posR ks (x.toNat + 1) := ⟨_, rfl⟩
  rw [← hQe] at hQ hstep ⊢
  have HQ := Lib.hid hQe
  have hX2 := (hX1.stay hB2).stay hB3
  have hB13 := (hB1.trans (hB2.mono hB1.size)).trans (hB3.mono (Nat.le_trans hB1.size hB2.size))
  have hXm : X ≠ m := fun e => by
    obtain ⟨o, lab, val, sh, hb', -⟩ := hN.blk
    have h1 := hX1.stay hB2
    unfold Blk at h1 hb'
    rw [e, hb'] at h1
    cases h1
  have hXr : kv.ownBlock ≠ some X := own_ne hN.row (fun cur e => by have h1 := hX1.stay hB2; unfold Blk at h1; rw [h1] at e; cases e)
  have hmr : kv.ownBlock ≠ some m := own_ne hN.row (fun cur e => by
    obtain ⟨o, lab, val, sh, hb', -⟩ := hN.blk
    unfold Blk at hb'; rw [hb'] at e; cases e)
  have hd2 := (hd1.stay hB2).stay hB3
  have hN2 := hN.stay hB3
  have hK2 : Hid (∀ (i c : Nat) (k : RX), bs[i]? = some c → ks[i]? = some k → RadW (fun y => (P y ∧ y ≠ m ∧ kv.ownBlock ≠ some y) ∧ y < w2.heap.size) w2 c k) := Lib.hid fun i c k hc hk' => ((hk i c k hc hk').stay hB3).old
  have hlb : bs.length ≤ 257 := by rw [hN.len]; exact hkf
  have hb2 : base ≤ w2.heap.size := Nat.le_trans hb hB13.size
  clear kp hm hk hN hd1 hX1 hQe hB1 hB2 hB3
  obtain ⟨A, N, c, rfl⟩ := hN2.row.form
  have hNle : ∀ g, (Value.slice A N c).ownBlock = some g → g < w2.heap.size := fun g hg => hN2.row.lt hg
  have hml := hN2.lt
  have hXl := hX2.lt
  obtain ⟨o, lab, val, sh, e1, e2, hBm, m0, m1, m2, m3, m4, m5⟩ := hN2.cells
  have x0 := hX2.cell 0
  simp at x0
  obtain ⟨B, hBe⟩ : ∃ B, B = w2.heap.size := ⟨_, rfl⟩
  have HB := Lib.hid hBe
  rw [← hBe] at hNle hml hXl
  have hBB : Below B w2 w2.drew := by rw [hBe]; exact (Below.refl _ w2).drew
  have hd3 : DeadT base w2.drew (.pointer a) := hd2.stay (Below.refl _ w2).drew
  have hN3 : Nod base w2.drew m (.node l v ks) (.slice A N c) bs := hN2.stay (Below.refl _ w2).drew
  have hsz : B ≤ w2.drew.heap.size := Nat.le_of_eq hBe
  have HBm := Lib.hid hBm
  have HE1 := Lib.hid e1
  have HE2 := Lib.hid e2
  have H13 := Lib.hid hB13
  clear hd2 hN2 hX2 m0 m1 m2 m3 m5 hBm hB13 hBe e1 e2
  go_wp2_with fail
  refine wp_region_late (S := fun w' : World => w'.cell? ⟨m, 4, none⟩ = some (.slice A N c) ∧ w'.cell? ⟨X, 0, none⟩ = some (.pointer a)) (st := 16) (by kernel_rfl) ?_
  have hS : (fun w' : World => w'.cell? ⟨m, 4, none⟩ = some (.slice A N c) ∧ w'.cell? ⟨X, 0, none⟩ = some (.pointer a)) w2.drew := ⟨m4, x0⟩
  refine wpAnyL_take0 (i := 0) (oi := { dst := some 40, op := Go.Op.move (Go.Operand.tmp 11), type := 24, pos := "change.go:26", after := #[], guard := none }) (v := .pointer (some ⟨m, 0, none⟩)) rfl (by kernel_rfl) (by kernel_rfl) (by kernel_rfl) (by kernel_rfl) (fun _ _ _ h => h) hS (Or.inl ⟨by rfl, fun w hSw => ?_⟩) ?_
  · go_split_ands
    go_simp
  try simp only [Act.put, List.setIfInBounds_toArray, List.set_cons_zero, List.set_cons_succ]
  refine wpAnyL_take0 (i := 1) (oi := { dst := some 41, op := Go.Op.move (Go.Operand.tmp 11), type := 24, pos := "change.go:26", after := #[], guard := none }) (v := .pointer (some ⟨m, 0, none⟩)) rfl (by kernel_rfl) (by kernel_rfl) (by kernel_rfl) (by kernel_rfl) (fun _ _ _ h => h) hS (Or.inl ⟨by rfl, fun w hSw => ?_⟩) ?_
  · go_split_ands
    go_simp
  try simp only [Act.put, List.setIfInBounds_toArray, List.set_cons_zero, List.set_cons_succ]
  refine wpAnyL_take0 (i := 2) (oi := { dst := some 42, op := Go.Op.nilCheck (Go.Operand.tmp 41), type := 0, pos := "change.go:26", after := #[{ on := 1, ground := Go.Ground.data }], guard := none }) (v := .pointer (some ⟨m, 0, none⟩)) rfl (by kernel_rfl) (by kernel_rfl) (by kernel_rfl) (by kernel_rfl) (fun _ _ _ h => h) hS (Or.inl ⟨by rfl, fun w hSw => ?_⟩) ?_
  · go_split_ands
    go_simp
  try simp only [Act.put, List.setIfInBounds_toArray, List.set_cons_zero, List.set_cons_succ]
  refine wpAnyL_take0 (i := 3) (oi := { dst := some 43, op := Go.Op.fieldAddr 132 (Go.Operand.tmp 42) 4, type := 0, pos := "change.go:26", after := #[{ on := 2, ground := Go.Ground.data }], guard := none }) (v := .pointer (some ⟨m, 4, none⟩)) rfl (by kernel_rfl) (by kernel_rfl) (by kernel_rfl) (by kernel_rfl) (fun _ _ _ h => h) hS (Or.inl ⟨by rfl, fun w hSw => ?_⟩) ?_
  · go_split_ands
    go_simp
  try simp only [Act.put, List.setIfInBounds_toArray, List.set_cons_zero, List.set_cons_succ]
  refine wpAnyL_take (i := 4) (oi := { dst := some 44, op := Go.Op.load 86 (Go.Operand.tmp 43), type := 86, pos := "change.go:26", after := #[{ on := 3, ground := Go.Ground.data }], guard := none }) (v := .slice A N c) rfl (by kernel_rfl) (by kernel_rfl) (by kernel_rfl) (by kernel_rfl) (fun _ _ _ h => h) hS (Or.inl ⟨by rfl, fun w hSw => ?_⟩) ?_
  · go_split_ands
    go_simp
  try simp only [Act.put, List.setIfInBounds_toArray, List.set_cons_zero, List.set_cons_succ]
  refine wpAnyL_take0 (i := 5) (oi := { dst := some 45, op := Go.Op.move (Go.Operand.tmp 12), type := 3, pos := "change.go:26", after := #[], guard := none }) (v := .int .i64 Q) rfl (by kernel_rfl) (by kernel_rfl) (by kernel_rfl) (by kernel_rfl) (fun _ _ _ h => h) hS (Or.inl ⟨by rfl, fun w hSw => ?_⟩) ?_
  · go_split_ands
    go_simp
  try simp only [Act.put, List.setIfInBounds_toArray, List.set_cons_zero, List.set_cons_succ]
  refine wpAnyL_take (i := 6) (oi := { dst := some 46, op := Go.Op.load 126 (Go.Operand.tmp 5), type := 126, pos := "change.go:26", after := #[], guard := none }) (v := .agg #[.pointer a]) rfl (by kernel_rfl) (by kernel_rfl) (by kernel_rfl) (by kernel_rfl) (fun _ _ _ h => h) hS (Or.inl ⟨by rfl, fun w hSw => ?_⟩) ?_
  · go_split_ands
    go_simp
  try simp only [Act.put, List.setIfInBounds_toArray, List.set_cons_zero, List.set_cons_succ]
  refine wpAnyL_take (i := 7) (oi := { dst := some 47, op := Go.Op.load 126 (Go.Operand.tmp 5), type := 126, pos := "change.go:26", after := #[], guard := none }) (v := .agg #[.pointer a]) rfl (by kernel_rfl) (by kernel_rfl) (by kernel_rfl) (by kernel_rfl) (fun _ _ _ h => h) hS (Or.inl ⟨by rfl, fun w hSw => ?_⟩) ?_
  · go_split_ands
    go_simp
  try simp only [Act.put, List.setIfInBounds_toArray, List.set_cons_zero, List.set_cons_succ]
  refine wpAnyL_take0 (i := 8) (oi := { dst := some 48, op := Go.Op.move (Go.Operand.tmp 3), type := 9, pos := "change.go:26", after := #[], guard := none }) (v := .string rest) rfl (by kernel_rfl) (by kernel_rfl) (by kernel_rfl) (by kernel_rfl) (fun _ _ _ h => h) hS (Or.inl ⟨by rfl, fun w hSw => ?_⟩) ?_
  · go_split_ands
    go_simp
  try simp only [Act.put, List.setIfInBounds_toArray, List.set_cons_zero, List.set_cons_succ]
  refine wpAnyL_take0 (i := 10) (oi := { dst := some 50, op := Go.Op.move (Go.Operand.tmp 4), type := 9, pos := "change.go:26", after := #[], guard := none }) (v := .string value) rfl (by kernel_rfl) (by kernel_rfl) (by kernel_rfl) (by kernel_rfl) (fun _ _ _ h => h) hS (Or.inl ⟨by rfl, fun w hSw => ?_⟩) ?_
  · go_split_ands
    go_simp
  try simp only [Act.put, List.setIfInBounds_toArray, List.set_cons_zero, List.set_cons_succ]
  refine wpAnyL_ready (rs := [9]) (by kernel_rfl) (by simp) ?_
  refine AllReadyL.cons (o := { dst := some 49, op := Go.Op.call { callee := Go.Callee.value (Go.Operand.func 84), args := #[Go.Operand.tmp 47, Go.Operand.tmp 48], argTypes := #[126, 9] }, type := 24, pos := "change.go:26", after := #[{ on := 7, ground := Go.Ground.data }, { on := 8, ground := Go.Ground.data }], guard := none }) rfl (fun K hK => ?_) AllReadyL.nil
  go_simp
  refine (leaf_any base (.pointer a) rest _ hd3).mono ?_
  rintro e w3 ⟨M, rfl, hM, hBM, hB4⟩
  go_wp2_with fail
  have hSn : (fun w' : World => w'.cell? ⟨m, 4, none⟩ = some (.slice A N c) ∧ w'.cell? ⟨X, 0, none⟩ = some (.pointer a)) _ := keep2 hS hB4
  refine hK.out _ _ (fun _ => hSn) ?_
  clear hK K hS
  try simp only [Act.put, List.setIfInBounds_toArray, List.set_cons_zero, List.set_cons_succ]
  have hS := hSn
  clear hSn
  have hd4 := hd3.stay hB4
  have hN3' := hN3.stay hB4
  have hsz4 := Nat.le_trans hsz hB4.size
  have hBB' := hBB.trans (hB4.mono hsz)
  have hBm3 := (HBm.out.stay (Below.refl _ w2).drew).stay hB4
  unfold at0
  clear hd3 hN3
  refine wpAnyL_ready (rs := [11]) (by kernel_rfl) (by simp) ?_
  refine AllReadyL.cons (o := { dst := some 51, op := Go.Op.call { callee := Go.Callee.value (Go.Operand.func 83), args := #[Go.Operand.tmp 46, Go.Operand.tmp 49, Go.Operand.const (Go.Value.bool true), Go.Operand.const (Go.Value.string { data := #[] }), Go.Operand.tmp 50], argTypes := #[126, 24, 4, 9, 9] }, type := 24, pos := "change.go:26", after := #[{ on := 6, ground := Go.Ground.data }, { on := 9, ground := Go.Ground.data }, { on := 10, ground := Go.Ground.data }, { on := 9, ground := Go.Ground.chain }], guard := none }) rfl (fun K hK => ?_) AllReadyL.nil
  go_simp
  refine (put_here (fun y => B ≤ y) B M true (.node rest.data.toList none []) (.pointer a) value _ (hd4.up (by rw [HB.out]; exact hb2)) hsz4 (.inl ⟨rfl, MineW.fresh hBM (Nat.le_trans hsz hM)⟩) (.mk (by simp) (by simp) (by simp))).mono ?_
  rintro e w4 ⟨b', u, rfl, -, hm', hcu, hlu, hiu, hB'⟩
  go_wp2_with fail
  have hSn : (fun w' : World => w'.cell? ⟨m, 4, none⟩ = some (.slice A N c) ∧ w'.cell? ⟨X, 0, none⟩ = some (.pointer a)) _ := keepB hS hB' hml hXl
  refine hK.out _ _ (fun _ => hSn) ?_
  clear hK K hS
  try simp only [Act.put, List.setIfInBounds_toArray, List.set_cons_zero, List.set_cons_succ]
  have hS := hSn
  clear hSn
  have hN4 := hN3'.belowAt hB' hml hNle
  have hBB4 := hBB'.trans hB'
  have hsz5 := Nat.le_trans hsz4 hB'.size
  have hBm4 := hBm3.belowAt hB' hml
  have hB5 : Below w4.heap.size w4 (w4.alloc (.cells #[.pointer (some ⟨b', 0, none⟩)] 24)) := (Below.refl _ w4).alloc (Nat.le_refl _) _
  have hV := Blk.new w4 24 #[.pointer (some ⟨b', 0, none⟩)]
  have hVne : (Value.slice A N c).ownBlock ≠ some w4.heap.size := fun e => by have := hNle _ e; omega
  have hBm4' := hBm4.stay hB5
  have hN4' := hN4.stay hB5
  unfold at0
  clear hd4 hN3' hBm3 hBm4
  refine wpAnyL_ready (rs := [12]) (by kernel_rfl) (by simp) ?_
  refine AllReadyL.cons (o := { dst := some 52, op := Go.Op.buildSlice 86 1 #[(0, Go.Operand.tmp 51)], type := 86, pos := "change.go:26", after := #[{ on := 11, ground := Go.Ground.data }], guard := none }) rfl (fun K hK => ?_) AllReadyL.nil
  go_simp
  have hSn : (fun w' : World => w'.cell? ⟨m, 4, none⟩ = some (.slice A N c) ∧ w'.cell? ⟨X, 0, none⟩ = some (.pointer a)) _ := keep2 hS hB5
  refine hK.out _ _ (fun _ => hSn) ?_
  clear hK K hS
  try simp only [Act.put, List.setIfInBounds_toArray, List.set_cons_zero, List.set_cons_succ]
  have hS := hSn
  clear hSn
  generalize hW5 : w4.alloc (.cells #[.pointer (some ⟨b', 0, none⟩)] 24) = W5 at *
  refine wpAnyL_ready (rs := [13]) (by kernel_rfl) (by simp) ?_
  refine AllReadyL.cons (o := { dst := some 53, op := Go.Op.call { callee := Go.Callee.value (Go.Operand.func 100), args := #[Go.Operand.tmp 44, Go.Operand.tmp 45, Go.Operand.tmp 52], argTypes := #[86, 3, 86] }, type := 86, pos := "change.go:26", after := #[{ on := 4, ground := Go.Ground.data }, { on := 5, ground := Go.Ground.data }, { on := 12, ground := Go.Ground.data }, { on := 11, ground := Go.Ground.chain }], guard := none }) rfl (fun K hK => ?_) AllReadyL.nil
  go_simp
  refine (ins_one base Q w4.heap.size b' (.slice A N c) bs W5 hN4'.row hQ (by omega) hV (Nat.le_trans hb2 (by rw [← HB.out]; exact Nat.le_trans hsz5 hB5.size)) hVne).mono ?_
  rintro e w5 ⟨v', rfl, hO5, hat, hK5⟩
  go_wp2_with fail
  have hSn : (fun w' : World => w'.cell? ⟨m, 4, none⟩ = some (.slice A N c) ∧ w'.cell? ⟨X, 0, none⟩ = some (.pointer a)) _ := keepK hS hK5 (by simp; exact hmr) (by simp; exact hXr)
  refine hK.out _ _ (fun _ => hSn) ?_
  clear hK K hS
  try simp only [Act.put, List.setIfInBounds_toArray, List.set_cons_zero, List.set_cons_succ]
  have hS := hSn
  clear hSn
  have hBm5 := hBm4'.keep hK5 (by simp; exact hmr)
  obtain ⟨A5, n5, q5, rfl⟩ := hO5.form
  obtain ⟨⟨z0, z1, z2, z3, z4, z5⟩, y0, y1, y2, y3, y4, y5⟩ := six hBm5
  refine wpAnyL_take0 (i := 14) (oi := { dst := some 54, op := Go.Op.nilCheck (Go.Operand.tmp 40), type := 0, pos := "change.go:26", after := #[{ on := 0, ground := Go.Ground.data }, { on := 0, ground := Go.Ground.phase }, { on := 1, ground := Go.Ground.phase }, { on := 2, ground := Go.Ground.phase }, { on := 3, ground := Go.Ground.phase }, { on := 4, ground := Go.Ground.phase }, { on := 5, ground := Go.Ground.phase }, { on := 6, ground := Go.Ground.phase }, { on := 7, ground := Go.Ground.phase }, { on := 8, ground := Go.Ground.phase }, { on := 9, ground := Go.Ground.phase }, { on := 10, ground := Go.Ground.phase }, { on := 11, ground := Go.Ground.phase }, { on := 12, ground := Go.Ground.phase }, { on := 13, ground := Go.Ground.phase }], guard := none }) (v := .pointer (some ⟨m, 0, none⟩)) rfl (by kernel_rfl) (by kernel_rfl) (by kernel_rfl) (by kernel_rfl) (fun _ _ _ h => h) hS (Or.inl ⟨by rfl, fun w hSw => ?_⟩) ?_
  · go_split_ands
    go_simp
  try simp only [Act.put, List.setIfInBounds_toArray, List.set_cons_zero, List.set_cons_succ]
  refine wpAnyL_take0 (i := 15) (oi := { dst := some 55, op := Go.Op.fieldAddr 132 (Go.Operand.tmp 54) 4, type := 0, pos := "change.go:26", after := #[{ on := 14, ground := Go.Ground.data }, { on := 0, ground := Go.Ground.phase }, { on := 1, ground := Go.Ground.phase }, { on := 2, ground := Go.Ground.phase }, { on := 3, ground := Go.Ground.phase }, { on := 4, ground := Go.Ground.phase }, { on := 5, ground := Go.Ground.phase }, { on := 6, ground := Go.Ground.phase }, { on := 7, ground := Go.Ground.phase }, { on := 8, ground := Go.Ground.phase }, { on := 9, ground := Go.Ground.phase }, { on := 10, ground := Go.Ground.phase }, { on := 11, ground := Go.Ground.phase }, { on := 12, ground := Go.Ground.phase }, { on := 13, ground := Go.Ground.phase }], guard := none }) (v := .pointer (some ⟨m, 4, none⟩)) rfl (by kernel_rfl) (by kernel_rfl) (by kernel_rfl) (by kernel_rfl) (fun _ _ _ h => h) hS (Or.inl ⟨by rfl, fun w hSw => ?_⟩) ?_
  · go_split_ands
    go_simp
  try simp only [Act.put, List.setIfInBounds_toArray, List.set_cons_zero, List.set_cons_succ]
  refine wpAnyL_ready (rs := [16]) (by kernel_rfl) (by simp) ?_
  refine AllReadyL.cons (o := { dst := none, op := Go.Op.store 86 (Go.Operand.tmp 55) (Go.Operand.tmp 53), type := 0, pos := "change.go:26", after := #[{ on := 15, ground := Go.Ground.data }, { on := 13, ground := Go.Ground.data }, { on := 13, ground := Go.Ground.chain }, { on := 0, ground := Go.Ground.phase }, { on := 1, ground := Go.Ground.phase }, { on := 2, ground := Go.Ground.phase }, { on := 3, ground := Go.Ground.phase }, { on := 4, ground := Go.Ground.phase }, { on := 5, ground := Go.Ground.phase }, { on := 6, ground := Go.Ground.phase }, { on := 7, ground := Go.Ground.phase }, { on := 8, ground := Go.Ground.phase }, { on := 9, ground := Go.Ground.phase }, { on := 10, ground := Go.Ground.phase }, { on := 11, ground := Go.Ground.phase }, { on := 12, ground := Go.Ground.phase }, { on := 13, ground := Go.Ground.phase }], guard := none }) rfl (fun K hK => ?_) AllReadyL.nil
  go_simp
  refine hK.out _ _ (late_no (by kernel_rfl)) ?_
  clear hK K
  try simp only [Act.put, List.setIfInBounds_toArray, List.set_cons_zero, List.set_cons_succ]
  refine wpAnyL_done (by kernel_rfl) ?_ _
  clear z0 z1 z2 z3 z4 z5 y0 y1 y2 y3 y4 y5 hS
  have hu : u = .node (x :: s) (some value) [] := leaf_uniq hcu (hlu.trans HR.out) (by rw [← HR.out]; exact hiu)
  subst hu
  obtain ⟨hcan, hins⟩ := hstep s
  have hmW : m < W5.heap.size := hBm4'.lt
  have hA5m : (Value.slice A5 n5 q5).ownBlock ≠ some m := fun e => by
    rcases hat with h | h
    · rw [h] at e; exact hmr e
    · rw [h] at e; have := Option.some.inj e; omega
  have hb6 := hBm5.set_ 4 (.slice A5 n5 q5)
  have hO6 : OwnK base (w5.setCell ⟨m, 4, none⟩ (.slice A5 n5 q5)) (.slice A5 n5 q5) (insAt bs Q b') := ownsRow_setCell_other hO5 hA5m _
  have hk6 : Keep [m] w5 (w5.setCell ⟨m, 4, none⟩ (.slice A5 n5 q5)) := (Keep.refl [m] w5).setCell (p := ⟨m, 4, none⟩) (by simp) _
  have hbW5 : base ≤ W5.heap.size := Nat.le_trans hb2 (by rw [← HB.out]; exact Nat.le_trans hsz5 hB5.size)
  have hBl : Below base w (w5.setCell ⟨m, 4, none⟩ (.slice A5 n5 q5)) := ((((H13.out.mono hb).trans (hBB4.mono (by rw [HB.out]; exact hb2))).trans (hB5.mono (Nat.le_trans hb2 (by rw [← HB.out]; exact hsz5)))).trans (hK5.below hbW5 (fun y hy => own_ge hN4'.row y (by simpa using hy)))).setCell (p := ⟨m, 4, none⟩) hmg _
  have hbB : base ≤ B := by rw [HB.out]; exact hb2
  have hlen := hN4'.len
  clear hO5 hBm5 hBm4' hV hVne hBB' hBM hB4 m4 x0
  go_wp2_with fail
  go_ret
  refine ⟨m, .node l v (insAt ks Q (.node (x :: s) (some value) [])), rfl, HMB.out, ⟨.slice A5 n5 q5, insAt bs Q b', ⟨⟨o, lab, val, sh, hb6, HE1.out, HE2.out⟩, hO6, ?_⟩, hmg, fun i c' k hc' hk' => ?_⟩, hcan, rfl, by rw [HR.out]; exact hins, hBl⟩
  · have hQk : Q ≤ ks.length := by rw [show ks.length = bs.length from hlen.symm]; exact hQ
    show _ = (insAt ks Q _).length
    rw [insAt_len _ _ _ hQ, insAt_len _ _ _ hQk, show bs.length = ks.length from hlen]
  · rcases insAt_get hlen hQ hc' hk' with ⟨rfl, rfl⟩ | ⟨j, h1, h2⟩
    · have hr := (((hm'.rad fun y hy => hy).old.stay hB5).keep hK5 (fun y hy hm => by have := hNle y (by simpa using hm); have := hy.1; omega)).keep hk6 (fun y hy hm => by simp at hm; have := hy.1; omega)
      refine hr.mono fun y hy _ => ⟨hP y (Nat.le_trans hbB hy.1), by have := hy.1; omega, fun e => ?_⟩
      rcases hat with h | h
      · rw [h] at e; have := hNle y e; have := hy.1; omega
      · rw [h] at e; have := Option.some.inj e; have := hy.2; have := hB5.size; omega
    · have hr := ((((hK2.out j c' k h1 h2).belowAt hBB4 (fun y hy => by rw [HB.out]; exact hy.2)).stay hB5).keep hK5 (fun y hy hm => hy.1.2.2 (by simpa using hm))).keep hk6 (fun y hy hm => by simp at hm; exact hy.1.2.1 hm)
      refine hr.mono fun y hy _ => ⟨hy.1.1, hy.1.2.1, fun e => ?_⟩
      rcases hat with h | h
      · rw [h] at e; exact hy.1.2.2 e
      · rw [h] at e; have := Option.some.inj e; have := hy.2; have := hB5.size; have := HB.out; omega
end Go.Proofs.Ytimhdegdmdilaaa
