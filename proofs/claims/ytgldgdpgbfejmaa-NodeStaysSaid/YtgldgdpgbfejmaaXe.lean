/- The reference's Change; calls of Set and Change that change nothing. -/
import Derived.Test.YtgldgdpgbfejmaaXd
import Derived.Test.YtgldgdpgbfejmaaMQ
namespace Go.Proofs.Ytgldgdpgbfejmaa
open Go.RowKit Go.Lib
set_option linter.unusedVariables false
set_option linter.unusedSimpArgs false
theorem rrow_putL (ns : List (RN × Value)) (k : Nat) (r : RN) (vl vl' : Value) (L : List Pr) (h : ns[k]? = some (r, vl)) : (rrow ns).set (k * 131 + 129) vl' = rrow (ns.set k ({ r with L := L }, vl')) := by
  obtain ⟨e1, e2⟩ := rrow_cut ns k (r, vl) h
  have hl := (List.getElem?_eq_some_iff.1 h).1
  have hA : (rrow (ns.take k)).length = k * 131 := by rw [rrow_len, List.length_take]; congr 1; omega
  rw [e1, e2, set_mid _ _ _ _ _ _ hA (by rw [rcells_len]; omega), rcells_setL r vl vl' L]
theorem RefA.putL {base : Nat} {w : World} {xb : Nat} {Lv : Value} {ns : List (RN × Value)} {lv : List Bool} {g cap : Nat} (h : RefA base w xb (.slice (some ⟨g, 0, none⟩) ns.length cap) Lv ns lv) (k : Nat) (r : RN) (vl vl' : Value) (L : List Pr) (hk : ns[k]? = some (r, vl)) (ho : OwnR base w vl' L) :
    RefA base (w.setCell ⟨g, k * 131 + 129, none⟩ vl') xb (.slice (some ⟨g, 0, none⟩) ns.length cap) Lv (ns.set k ({ r with L := L }, vl')) lv ∧ KeepA base w (w.setCell ⟨g, k * 131 + 129, none⟩ vl') := by
  have hn := h.nodes
  obtain ⟨cs, hcs⟩ := own_cells hn g rfl
  have hgb := own_ge hn g rfl
  have hx : xb ≠ g := fun e => by
    have h1 := h.blk
    rw [e] at h1; unfold Blk at h1; rw [h1] at hcs; cases hcs
  have hL : Lv.ownBlock ≠ some g := own_ne h.live (fun cur e => by rw [hcs] at e; cases e)
  have s1 := (hn.stored (k * 131 + 129) vl').1
  rw [rrow_putL ns k r vl vl' L hk] at s1
  refine ⟨⟨h.blk.far (p := ⟨g, _, none⟩) hx _, h.ge, by rw [List.length_set]; exact s1, ownsRow_setCell_other h.live hL _, fun m hm => ?_⟩, ?_⟩
  · rcases List.mem_or_eq_of_mem_set hm with hm | rfl
    · exact ownsRow_setCell_other (h.ls m hm) (own_ne (h.ls m hm) (fun cur e => by rw [hcs] at e; cases e)) _
    · exact ownsRow_setCell_other ho (own_ne ho (fun cur e => by rw [hcs] at e; cases e)) _
  · refine ⟨(Below.refl base w).setCell (p := ⟨g, _, none⟩) hgb _, fun b hb h85 _ => ?_⟩
    have hne : b ≠ g := fun e => h85 _ _ (by rw [e]; exact hcs)
    rw [Below.heap_setCell _ _ _ _ hne]
/-- what Change leaves -/
def ChaPost (base xb n : Nat) (Lv : Value) (ns : List (RN × Value)) (lv : List Bool) (own : Bool) (rn : RN) (L : List Pr) (w : World) (e : Ending) (w' : World) : Prop :=
  ∃ Nv' vl vl', e = .returned (.int .i64 (atOf ns own n : Nat)) ∧ RefA base w' xb Nv' Lv ((nsOf ns own (rn, vl)).set (atOf ns own n) ({ rn with L := L }, vl')) lv ∧ KeepA base w w'
theorem own_formR {base : Nat} {w : World} {v : Value} {xs : List Pr} (h : OwnR base w v xs) : ∃ A c, v = .slice A xs.length c := by
  rcases h.2 with ⟨e, e0⟩ | ⟨g, cap, cur, e, _⟩
  · exact ⟨none, 0, by rw [e, e0]⟩
  · exact ⟨_, _, e⟩

set_option maxRecDepth 100000 in
theorem refCha_out (base xb n who : Nat) (b : Bool) (pk pu : ByteArray) (Nv Lv : Value) (ns : List (RN × Value)) (lv : List Bool) (r : RN × Value) (w : World) (h : RefA base w xb Nv Lv ns lv) (hr : ns[n]? = some r) (hbk : r.1.bk = false) (hn : ns.length ≤ 900) :
    Calls Try.prog 49 #[at0 xb, .int .i64 n, .int .i64 who, .bool b, .agg #[.string pk, .string pu]] w fun e w' => e = .returned (.int .i64 n) ∧ Below w.heap.size w w' := by
  have hB0 := (Below.refl _ w).alloc (Nat.le_refl _) (.cells #[.string pk, .string pu] 81)
  have hA0 := h.below hB0
  obtain ⟨c0, c1⟩ := hA0.cells
  obtain ⟨g, cap, e, hlt, hrg, hfz⟩ := hA0.node n r hr
  have hcb : (w.alloc (.cells #[.string pk, .string pu] 81)).cell? ⟨g, n * 131, none⟩ = some (.bool false) := by
    have := hrg 0 _ (rcells_get r.1 r.2 0 (by omega))
    rw [Nat.add_zero] at this
    rw [this, rcell_bk, hbk]
  have B2 : (n : Int) < (ns.length : Int) := by omega
  rw [e] at c0
  clear h hrg hfz e hA0
  unfold at0
  go_enter Try.func49, Try.ntmps49
  go_upto_region 1 with (fail)
  generalize w.alloc (.cells #[.string pk, .string pu] 81) = W at *
  go_wp2_with fail
  go_ret
  exact ⟨rfl, hB0⟩
set_option maxRecDepth 100000 in
theorem refSet_out (base xb n who : Nat) (i ii kk : Int) (pk pu : ByteArray) (Nv Lv : Value) (ns : List (RN × Value)) (lv : List Bool) (r : RN × Value) (w : World) (h : RefA base w xb Nv Lv ns lv) (hr : ns[n]? = some r) (hbk : r.1.bk = true ∨ i < 0 ∨ 32 ≤ i) (hn : ns.length ≤ 900) :
    Calls Try.prog 48 #[at0 xb, .int .i64 n, .int .i64 who, .int .i64 i, .int .i64 ii, .agg #[.string pk, .string pu], .int .i64 kk] w fun e w' => e = .returned (.int .i64 n) ∧ Below w.heap.size w w' := by
  have hB0 := (Below.refl _ w).alloc (Nat.le_refl _) (.cells #[.string pk, .string pu] 81)
  have hA0 := h.below hB0
  obtain ⟨c0, c1⟩ := hA0.cells
  obtain ⟨g, cap, e, hlt, hrg, hfz⟩ := hA0.node n r hr
  have hcb : (w.alloc (.cells #[.string pk, .string pu] 81)).cell? ⟨g, n * 131, none⟩ = some (.bool r.1.bk) := by
    have := hrg 0 _ (rcells_get r.1 r.2 0 (by omega))
    rw [Nat.add_zero] at this
    rw [this, rcell_bk]
  have B2 : (n : Int) < (ns.length : Int) := by omega
  rw [e] at c0
  clear h hrg hfz e hA0
  unfold at0
  cases hb : r.1.bk with
  | true =>
    rw [hb] at hcb
    clear hbk hb
    go_enter Try.func48, Try.ntmps48
    go_upto_region 1 with (fail)
    generalize w.alloc (.cells #[.string pk, .string pu] 81) = W at *
    go_wp2_with fail
    go_ret
    exact ⟨rfl, hB0⟩
  | false =>
    rw [hb] at hcb hbk
    simp only [Bool.false_eq_true, false_or] at hbk
    clear hb
    by_cases h0 : i < 0
    · clear hbk
      go_enter Try.func48, Try.ntmps48
      go_upto_region 1 with (fail)
      generalize w.alloc (.cells #[.string pk, .string pu] 81) = W at *
      go_wp2_with fail
      go_ret
      exact ⟨rfl, hB0⟩
    · have h1 : 31 < i := by omega
      have h2 : decide (i < 0) = false := by simp; omega
      clear hbk h0
      go_enter Try.func48, Try.ntmps48
      go_upto_region 1 with (fail)
      generalize w.alloc (.cells #[.string pk, .string pu] 81) = W at *
      go_wp2_with fail
      go_ret
      exact ⟨rfl, hB0⟩

set_option maxRecDepth 100000 in
set_option maxHeartbeats 8000000 in
theorem refCha_put (base xb n who : Nat) (pk pu : ByteArray) (Nv Lv : Value) (ns : List (RN × Value)) (lv : List Bool) (r : RN × Value) (w : World) (h : RefA base w xb Nv Lv ns lv) (hr : ns[n]? = some r) (hw : who < lv.length) (hbk : r.1.bk = true) (hn : ns.length ≤ 900) (hln : lv.length ≤ 1000) (hL : r.1.L.length ≤ 900) (hz : Sized r.1.L) (hp : pk.size ≤ maxLen) (hbase : base ≤ w.heap.size) :
    Calls Try.prog 49 #[at0 xb, .int .i64 n, .int .i64 who, .bool true, .agg #[.string pk, .string pu]] w (ChaPost base xb n Lv ns lv (refOwn r.1 who lv) (rnOf r.1 who lv) (putK r.1.L (pk, pu)) w) := by
  have hB0 := (Below.refl _ w).alloc (Nat.le_refl _) (.cells #[.string pk, .string pu] 81)
  have hbx := Blk.new w 81 #[.string pk, .string pu]
  have hA0 := h.below hB0
  obtain ⟨c0, c1⟩ := hA0.cells
  obtain ⟨g, cap, e, hlt, hrg, hfz⟩ := hA0.node n r hr
  have hcb : (w.alloc (.cells #[.string pk, .string pu] 81)).cell? ⟨g, n * 131, none⟩ = some (.bool true) := by
    have := hrg 0 _ (rcells_get r.1 r.2 0 (by omega))
    rw [Nat.add_zero] at this
    rw [this, rcell_bk, hbk]
  have B2 : (n : Int) < (ns.length : Int) := by omega
  rw [e] at c0
  have HOwn := Lib.hid (refOwn_any base xb n who Nv Lv ns lv r _ hA0 hr hw (by omega) hln hL (Nat.le_trans hbase hB0.size))
  clear h hrg hfz e
  unfold at0
  go_enter Try.func49, Try.ntmps49
  go_upto_region 1 with (fail)
  generalize w.alloc (.cells #[.string pk, .string pu] 81) = W at *
  obtain ⟨N, hN⟩ : ∃ N, N = w.heap.size := ⟨_, rfl⟩
  rw [← hN] at hbx ⊢
  clear hN
  go_wp2_with fail
  have hown := HOwn.out
  unfold at0 at hown
  refine hown.mono ?_
  rintro e w1 ⟨Nv', vl, rfl, hA1, hat, hK1⟩
  have hbx1 := hK1.cellOf hbx (by decide) (by decide)
  obtain ⟨rn, hrn⟩ : ∃ rn, rn = rnOf r.1 who lv := ⟨_, rfl⟩
  obtain ⟨own, hownb⟩ : ∃ own, own = refOwn r.1 who lv := ⟨_, rfl⟩
  rw [← hrn, ← hownb] at hA1 hat
  rw [← hownb]
  obtain ⟨ns1, hns1⟩ : ∃ ns1, ns1 = nsOf ns own (rn, vl) := ⟨_, rfl⟩
  obtain ⟨at1, hat1⟩ : ∃ at1, at1 = atOf ns own n := ⟨_, rfl⟩
  rw [← hns1] at hA1 hat
  rw [← hat1] at hat ⊢
  have hl1 : ns1.length ≤ 1000 := by rw [hns1]; have := nsOf_len ns own (rn, vl); omega
  obtain ⟨g1, cap1, rfl, hlt1, hrg1, hfz1⟩ := hA1.node at1 (rn, vl) hat
  have hrL : rn.L = r.1.L := by rw [hrn]; rfl
  have hvl0 : OwnR base w1 vl rn.L := hA1.ls (rn, vl) (List.mem_of_getElem? hat)
  rw [hrL] at hvl0
  obtain ⟨A0, cv0, hvle⟩ := own_formR hvl0
  have HS := Lib.hid (⟨hrn, hownb, hns1, hat1⟩ : rn = rnOf r.1 who lv ∧ own = refOwn r.1 who lv ∧ ns1 = nsOf ns own (rn, vl) ∧ at1 = atOf ns own n)
  have HA1 := Lib.hid (hA1.drewN 1)
  have HK1 := Lib.hid (hK1.drewN 1)
  have HAT := Lib.hid hat
  have B3 : (at1 : Int) < (ns1.length : Int) := by omega
  have z1 : w1.cell? ⟨g1, at1 * 131 + 129, none⟩ = some vl := by
    have := hrg1 129 _ (rcells_get _ _ _ (by omega)); rw [rcell_l] at this; exact this
  have hS : (fun w' : World => w'.cell? ⟨xb, 0, none⟩ = some (.slice (some ⟨g1, 0, none⟩) ns1.length cap1) ∧ w'.cell? ⟨N, 0, none⟩ = some (.string pk) ∧ w'.cell? ⟨N, 1, none⟩ = some (.string pu) ∧ w'.cell? ⟨g1, at1 * 131 + 129, none⟩ = some vl) w1.drew := ⟨hA1.cells.1, hbx1.cell 0, hbx1.cell 1, z1⟩
  have hbxd : Blk w1.drew N 81 #[.string pk, .string pu] := hbx1
  have hvld : OwnR base w1.drew vl r.1.L := hvl0
  have hRdd : Rd w1.drew A0 r.1.L := by
    obtain ⟨A, c, e, hR⟩ := OwnR.rd hvld
    rw [hvle] at e
    simp only [Value.slice.injEq, true_and] at e
    rw [e.1]; exact hR
  have hbs1 : base ≤ w1.drew.heap.size := Nat.le_trans hbase (Nat.le_trans hB0.size hK1.below.size)
  clear hrn hownb hns1 hat1 hA1 hK1 hown HOwn c0 c1 hcb hbx hA0 hat hvl0 hbx1 z1 hrg1 hfz1 hrL
  subst hvle
  go_wp2_with fail
  refine wp_region_late (S := fun w' => w'.cell? ⟨xb, 0, none⟩ = some (.slice (some ⟨g1, 0, none⟩) ns1.length cap1) ∧ w'.cell? ⟨N, 0, none⟩ = some (.string pk) ∧ w'.cell? ⟨N, 1, none⟩ = some (.string pu) ∧ w'.cell? ⟨g1, at1 * 131 + 129, none⟩ = some (.slice A0 r.1.L.length cv0)) (st := 17) (by kernel_rfl) ?_
  change wpAnyL _ _ _ _ _ _ _ _ _ w1.drew
  replace HA1 : Hid (RefA base w1.drew xb (.slice (some ⟨g1, 0, none⟩) ns1.length cap1) Lv ns1 lv) := HA1
  replace HK1 : Hid (KeepA base W w1.drew) := HK1
  generalize w1.drew = W1 at *
  refine wpAnyL_take0 (i := 0) (oi := { dst := some 27, op := Go.Op.move (Go.Operand.tmp 0), type := 34, pos := "ref.go:55", after := #[], guard := none }) (v := .pointer (some ⟨xb, 0, none⟩)) rfl (by kernel_rfl) (by kernel_rfl) (by kernel_rfl) (by kernel_rfl) (fun _ _ _ h => h) hS (Or.inl ⟨by rfl, fun w hSw => ?_⟩) ?_
  · go_split_ands
    go_simp
  try simp only [Act.put, List.setIfInBounds_toArray, List.set_cons_zero, List.set_cons_succ]
  refine wpAnyL_take0 (i := 1) (oi := { dst := some 28, op := Go.Op.nilCheck (Go.Operand.tmp 27), type := 0, pos := "ref.go:55", after := #[{ on := 0, ground := Go.Ground.data }], guard := none }) (v := .pointer (some ⟨xb, 0, none⟩)) rfl (by kernel_rfl) (by kernel_rfl) (by kernel_rfl) (by kernel_rfl) (fun _ _ _ h => h) hS (Or.inl ⟨by rfl, fun w hSw => ?_⟩) ?_
  · go_split_ands
    go_simp
  try simp only [Act.put, List.setIfInBounds_toArray, List.set_cons_zero, List.set_cons_succ]
  refine wpAnyL_take0 (i := 2) (oi := { dst := some 29, op := Go.Op.fieldAddr 89 (Go.Operand.tmp 28) 0, type := 0, pos := "ref.go:55", after := #[{ on := 1, ground := Go.Ground.data }], guard := none }) (v := .pointer (some ⟨xb, 0, none⟩)) rfl (by kernel_rfl) (by kernel_rfl) (by kernel_rfl) (by kernel_rfl) (fun _ _ _ h => h) hS (Or.inl ⟨by rfl, fun w hSw => ?_⟩) ?_
  · go_split_ands
    go_simp
  try simp only [Act.put, List.setIfInBounds_toArray, List.set_cons_zero, List.set_cons_succ]
  refine wpAnyL_take (i := 3) (oi := { dst := some 30, op := Go.Op.load 86 (Go.Operand.tmp 29), type := 86, pos := "ref.go:55", after := #[{ on := 2, ground := Go.Ground.data }], guard := none }) (v := .slice (some ⟨g1, 0, none⟩) ns1.length cap1) rfl (by kernel_rfl) (by kernel_rfl) (by kernel_rfl) (by kernel_rfl) (fun _ _ _ h => h) hS (Or.inl ⟨by rfl, fun w hSw => ?_⟩) ?_
  · go_split_ands
    go_simp
  try simp only [Act.put, List.setIfInBounds_toArray, List.set_cons_zero, List.set_cons_succ]
  refine wpAnyL_take0 (i := 4) (oi := { dst := some 31, op := Go.Op.move (Go.Operand.tmp 11), type := 3, pos := "ref.go:55", after := #[], guard := none }) (v := .int .i64 at1) rfl (by kernel_rfl) (by kernel_rfl) (by kernel_rfl) (by kernel_rfl) (fun _ _ _ h => h) hS (Or.inl ⟨by rfl, fun w hSw => ?_⟩) ?_
  · go_split_ands
    go_simp
  try simp only [Act.put, List.setIfInBounds_toArray, List.set_cons_zero, List.set_cons_succ]
  refine wpAnyL_take0 (i := 5) (oi := { dst := some 32, op := Go.Op.move (Go.Operand.tmp 0), type := 34, pos := "ref.go:55", after := #[], guard := none }) (v := .pointer (some ⟨xb, 0, none⟩)) rfl (by kernel_rfl) (by kernel_rfl) (by kernel_rfl) (by kernel_rfl) (fun _ _ _ h => h) hS (Or.inl ⟨by rfl, fun w hSw => ?_⟩) ?_
  · go_split_ands
    go_simp
  try simp only [Act.put, List.setIfInBounds_toArray, List.set_cons_zero, List.set_cons_succ]
  refine wpAnyL_take0 (i := 6) (oi := { dst := some 33, op := Go.Op.nilCheck (Go.Operand.tmp 32), type := 0, pos := "ref.go:55", after := #[{ on := 5, ground := Go.Ground.data }], guard := none }) (v := .pointer (some ⟨xb, 0, none⟩)) rfl (by kernel_rfl) (by kernel_rfl) (by kernel_rfl) (by kernel_rfl) (fun _ _ _ h => h) hS (Or.inl ⟨by rfl, fun w hSw => ?_⟩) ?_
  · go_split_ands
    go_simp
  try simp only [Act.put, List.setIfInBounds_toArray, List.set_cons_zero, List.set_cons_succ]
  refine wpAnyL_take0 (i := 7) (oi := { dst := some 34, op := Go.Op.fieldAddr 89 (Go.Operand.tmp 33) 0, type := 0, pos := "ref.go:55", after := #[{ on := 6, ground := Go.Ground.data }], guard := none }) (v := .pointer (some ⟨xb, 0, none⟩)) rfl (by kernel_rfl) (by kernel_rfl) (by kernel_rfl) (by kernel_rfl) (fun _ _ _ h => h) hS (Or.inl ⟨by rfl, fun w hSw => ?_⟩) ?_
  · go_split_ands
    go_simp
  try simp only [Act.put, List.setIfInBounds_toArray, List.set_cons_zero, List.set_cons_succ]
  refine wpAnyL_take (i := 8) (oi := { dst := some 35, op := Go.Op.load 86 (Go.Operand.tmp 34), type := 86, pos := "ref.go:55", after := #[{ on := 7, ground := Go.Ground.data }], guard := none }) (v := .slice (some ⟨g1, 0, none⟩) ns1.length cap1) rfl (by kernel_rfl) (by kernel_rfl) (by kernel_rfl) (by kernel_rfl) (fun _ _ _ h => h) hS (Or.inl ⟨by rfl, fun w hSw => ?_⟩) ?_
  · go_split_ands
    go_simp
  try simp only [Act.put, List.setIfInBounds_toArray, List.set_cons_zero, List.set_cons_succ]
  refine wpAnyL_take0 (i := 9) (oi := { dst := some 36, op := Go.Op.move (Go.Operand.tmp 11), type := 3, pos := "ref.go:55", after := #[], guard := none }) (v := .int .i64 at1) rfl (by kernel_rfl) (by kernel_rfl) (by kernel_rfl) (by kernel_rfl) (fun _ _ _ h => h) hS (Or.inl ⟨by rfl, fun w hSw => ?_⟩) ?_
  · go_split_ands
    go_simp
  try simp only [Act.put, List.setIfInBounds_toArray, List.set_cons_zero, List.set_cons_succ]
  refine wpAnyL_take0 (i := 10) (oi := { dst := some 37, op := Go.Op.indexAddr 86 (Go.Operand.tmp 35) (Go.Operand.tmp 36), type := 0, pos := "ref.go:55", after := #[{ on := 8, ground := Go.Ground.data }, { on := 9, ground := Go.Ground.data }], guard := none }) (v := .pointer (some ⟨g1, at1 * 131, none⟩)) rfl (by kernel_rfl) (by kernel_rfl) (by kernel_rfl) (by kernel_rfl) (fun _ _ _ h => h) hS (Or.inl ⟨by rfl, fun w hSw => ?_⟩) ?_
  · go_split_ands
    go_simp
  try simp only [Act.put, List.setIfInBounds_toArray, List.set_cons_zero, List.set_cons_succ]
  refine wpAnyL_take0 (i := 11) (oi := { dst := some 38, op := Go.Op.fieldAddr 85 (Go.Operand.tmp 37) 4, type := 0, pos := "ref.go:55", after := #[{ on := 10, ground := Go.Ground.data }], guard := none }) (v := .pointer (some ⟨g1, at1 * 131 + 129, none⟩)) rfl (by kernel_rfl) (by kernel_rfl) (by kernel_rfl) (by kernel_rfl) (fun _ _ _ h => h) hS (Or.inl ⟨by rfl, fun w hSw => ?_⟩) ?_
  · go_split_ands
    go_simp
  try simp only [Act.put, List.setIfInBounds_toArray, List.set_cons_zero, List.set_cons_succ]
  refine wpAnyL_take (i := 12) (oi := { dst := some 39, op := Go.Op.load 83 (Go.Operand.tmp 38), type := 83, pos := "ref.go:55", after := #[{ on := 11, ground := Go.Ground.data }], guard := none }) (v := .slice A0 r.1.L.length cv0) rfl (by kernel_rfl) (by kernel_rfl) (by kernel_rfl) (by kernel_rfl) (fun _ _ _ h => h) hS (Or.inl ⟨by rfl, fun w hSw => ?_⟩) ?_
  · go_split_ands
    go_simp
  try simp only [Act.put, List.setIfInBounds_toArray, List.set_cons_zero, List.set_cons_succ]
  refine wpAnyL_take (i := 13) (oi := { dst := some 40, op := Go.Op.load 81 (Go.Operand.tmp 9), type := 81, pos := "ref.go:55", after := #[], guard := none }) (v := .agg #[.string pk, .string pu]) rfl (by kernel_rfl) (by kernel_rfl) (by kernel_rfl) (by kernel_rfl) (fun _ _ _ h => h) hS (Or.inl ⟨by rfl, fun w hSw => ?_⟩) ?_
  · go_split_ands
    go_simp
  try simp only [Act.put, List.setIfInBounds_toArray, List.set_cons_zero, List.set_cons_succ]
  refine wpAnyL_ready (rs := [14]) (by kernel_rfl) (by simp) ?_
  refine AllReadyL.cons (o := { dst := some 41, op := Go.Op.call { callee := Go.Callee.value (Go.Operand.func 68), args := #[Go.Operand.tmp 39, Go.Operand.tmp 40], argTypes := #[83, 81] }, type := 83, pos := "ref.go:55", after := #[{ on := 12, ground := Go.Ground.data }, { on := 13, ground := Go.Ground.data }], guard := none }) rfl (fun K hK => ?_) AllReadyL.nil
  go_simp
  have hcc := refPut_any A0 cv0 r.1.L (pk, pu) W1 hRdd hL hz hp
  unfold Pr.v at hcc
  refine hcc.mono ?_
  rintro e w3 ⟨v', rfl, hO, hB3⟩
  go_wp2_with fail
  have hA3 := HA1.out.below hB3
  have hS3 : (fun w' : World => w'.cell? ⟨xb, 0, none⟩ = some (.slice (some ⟨g1, 0, none⟩) ns1.length cap1) ∧ w'.cell? ⟨N, 0, none⟩ = some (.string pk) ∧ w'.cell? ⟨N, 1, none⟩ = some (.string pu) ∧ w'.cell? ⟨g1, at1 * 131 + 129, none⟩ = some (.slice A0 r.1.L.length cv0)) w3 := ⟨hA3.cells.1, (hbxd.below hB3).cell 0, (hbxd.below hB3).cell 1, (hB3.cell (World.block_lt_of_cell? W1 _ hS.2.2.2)).trans hS.2.2.2⟩
  refine hK.out _ _ (fun _ => hS3) ?_
  clear hK K hS hcc
  try simp only [Act.put, List.setIfInBounds_toArray, List.set_cons_zero, List.set_cons_succ]
  have hS := hS3
  obtain ⟨A2, n2, q2, rfl⟩ : ∃ A n c, v' = .slice A n c := by
    rcases hO.2 with ⟨e, _⟩ | ⟨_, _, _, e, _⟩
    · exact ⟨_, _, _, e⟩
    · exact ⟨_, _, _, e⟩
  have hO' := hO.base (b' := base) hbs1
  obtain ⟨g2, cap2, e2, -, -, hfz3⟩ := hA3.node at1 (rn, .slice A0 r.1.L.length cv0) HAT.out
  simp only [Value.slice.injEq, Option.some.injEq, Addr.mk.injEq, and_true, true_and] at e2
  obtain ⟨rfl, rfl⟩ := e2
  have y1 := hfz3 (at1 * 131 + 129)
  have z1 := hS3.2.2.2
  have hput := RefA.putL hA3 at1 rn (.slice A0 r.1.L.length cv0) (.slice A2 n2 q2) (putK r.1.L (pk, pu)) HAT.out hO'
  have hKf := (KeepA.ofBelow (base := base) hB0 hbase).trans ((HK1.out.trans (KeepA.ofBelow hB3 hbs1)).trans hput.2)
  clear hA3 hfz3 hO hO'
  refine wpAnyL_take0 (i := 15) (oi := { dst := some 42, op := Go.Op.indexAddr 86 (Go.Operand.tmp 30) (Go.Operand.tmp 31), type := 0, pos := "ref.go:55", after := #[{ on := 3, ground := Go.Ground.data }, { on := 4, ground := Go.Ground.data }, { on := 0, ground := Go.Ground.phase }, { on := 1, ground := Go.Ground.phase }, { on := 2, ground := Go.Ground.phase }, { on := 3, ground := Go.Ground.phase }, { on := 4, ground := Go.Ground.phase }, { on := 5, ground := Go.Ground.phase }, { on := 6, ground := Go.Ground.phase }, { on := 7, ground := Go.Ground.phase }, { on := 8, ground := Go.Ground.phase }, { on := 9, ground := Go.Ground.phase }, { on := 10, ground := Go.Ground.phase }, { on := 11, ground := Go.Ground.phase }, { on := 12, ground := Go.Ground.phase }, { on := 13, ground := Go.Ground.phase }, { on := 14, ground := Go.Ground.phase }], guard := none }) (v := .pointer (some ⟨g1, at1 * 131, none⟩)) rfl (by kernel_rfl) (by kernel_rfl) (by kernel_rfl) (by kernel_rfl) (fun _ _ _ h => h) hS (Or.inl ⟨by rfl, fun w hSw => ?_⟩) ?_
  · go_split_ands
    go_simp
  try simp only [Act.put, List.setIfInBounds_toArray, List.set_cons_zero, List.set_cons_succ]
  refine wpAnyL_take0 (i := 16) (oi := { dst := some 43, op := Go.Op.fieldAddr 85 (Go.Operand.tmp 42) 4, type := 0, pos := "ref.go:55", after := #[{ on := 15, ground := Go.Ground.data }, { on := 0, ground := Go.Ground.phase }, { on := 1, ground := Go.Ground.phase }, { on := 2, ground := Go.Ground.phase }, { on := 3, ground := Go.Ground.phase }, { on := 4, ground := Go.Ground.phase }, { on := 5, ground := Go.Ground.phase }, { on := 6, ground := Go.Ground.phase }, { on := 7, ground := Go.Ground.phase }, { on := 8, ground := Go.Ground.phase }, { on := 9, ground := Go.Ground.phase }, { on := 10, ground := Go.Ground.phase }, { on := 11, ground := Go.Ground.phase }, { on := 12, ground := Go.Ground.phase }, { on := 13, ground := Go.Ground.phase }, { on := 14, ground := Go.Ground.phase }], guard := none }) (v := .pointer (some ⟨g1, at1 * 131 + 129, none⟩)) rfl (by kernel_rfl) (by kernel_rfl) (by kernel_rfl) (by kernel_rfl) (fun _ _ _ h => h) hS (Or.inl ⟨by rfl, fun w hSw => ?_⟩) ?_
  · go_split_ands
    go_simp
  try simp only [Act.put, List.setIfInBounds_toArray, List.set_cons_zero, List.set_cons_succ]
  refine wpAnyL_ready (rs := [17]) (by kernel_rfl) (by simp) ?_
  refine AllReadyL.cons (o := { dst := none, op := Go.Op.store 83 (Go.Operand.tmp 43) (Go.Operand.tmp 41), type := 0, pos := "ref.go:55", after := #[{ on := 16, ground := Go.Ground.data }, { on := 14, ground := Go.Ground.data }, { on := 14, ground := Go.Ground.chain }, { on := 0, ground := Go.Ground.phase }, { on := 1, ground := Go.Ground.phase }, { on := 2, ground := Go.Ground.phase }, { on := 3, ground := Go.Ground.phase }, { on := 4, ground := Go.Ground.phase }, { on := 5, ground := Go.Ground.phase }, { on := 6, ground := Go.Ground.phase }, { on := 7, ground := Go.Ground.phase }, { on := 8, ground := Go.Ground.phase }, { on := 9, ground := Go.Ground.phase }, { on := 10, ground := Go.Ground.phase }, { on := 11, ground := Go.Ground.phase }, { on := 12, ground := Go.Ground.phase }, { on := 13, ground := Go.Ground.phase }, { on := 14, ground := Go.Ground.phase }], guard := none }) rfl (fun K hK => ?_) AllReadyL.nil
  go_simp
  refine hK.out _ _ (late_noR (by kernel_rfl)) ?_
  clear hK K hS hS3
  try simp only [Act.put, List.setIfInBounds_toArray, List.set_cons_zero, List.set_cons_succ]
  refine wpAnyL_done (by kernel_rfl) ?_ _
  clear y1 z1
  generalize w3.setCell ⟨g1, at1 * 131 + 129, none⟩ (.slice A2 n2 q2) = W4 at *
  go_wp2_with fail
  go_ret
  obtain ⟨t1, t2, t3, t4⟩ := HS.out
  subst t1; subst t2; subst t3; subst t4
  exact ⟨_, _, _, rfl, hput.1, hKf⟩

set_option maxRecDepth 100000 in
set_option maxHeartbeats 8000000 in
theorem refCha_drop (base xb n who : Nat) (pk pu : ByteArray) (Nv Lv : Value) (ns : List (RN × Value)) (lv : List Bool) (r : RN × Value) (w : World) (h : RefA base w xb Nv Lv ns lv) (hr : ns[n]? = some r) (hw : who < lv.length) (hbk : r.1.bk = true) (hn : ns.length ≤ 900) (hln : lv.length ≤ 1000) (hL : r.1.L.length ≤ 900) (hbase : base ≤ w.heap.size) :
    Calls Try.prog 49 #[at0 xb, .int .i64 n, .int .i64 who, .bool false, .agg #[.string pk, .string pu]] w (ChaPost base xb n Lv ns lv (refOwn r.1 who lv) (rnOf r.1 who lv) (dropK r.1.L pk) w) := by
  have hB0 := (Below.refl _ w).alloc (Nat.le_refl _) (.cells #[.string pk, .string pu] 81)
  have hbx := Blk.new w 81 #[.string pk, .string pu]
  have hA0 := h.below hB0
  obtain ⟨c0, c1⟩ := hA0.cells
  obtain ⟨g, cap, e, hlt, hrg, hfz⟩ := hA0.node n r hr
  have hcb : (w.alloc (.cells #[.string pk, .string pu] 81)).cell? ⟨g, n * 131, none⟩ = some (.bool true) := by
    have := hrg 0 _ (rcells_get r.1 r.2 0 (by omega))
    rw [Nat.add_zero] at this
    rw [this, rcell_bk, hbk]
  have B2 : (n : Int) < (ns.length : Int) := by omega
  rw [e] at c0
  have HOwn := Lib.hid (refOwn_any base xb n who Nv Lv ns lv r _ hA0 hr hw (by omega) hln hL (Nat.le_trans hbase hB0.size))
  clear h hrg hfz e
  unfold at0
  go_enter Try.func49, Try.ntmps49
  go_upto_region 1 with (fail)
  generalize w.alloc (.cells #[.string pk, .string pu] 81) = W at *
  obtain ⟨N, hN⟩ : ∃ N, N = w.heap.size := ⟨_, rfl⟩
  rw [← hN] at hbx ⊢
  clear hN
  go_wp2_with fail
  have hown := HOwn.out
  unfold at0 at hown
  refine hown.mono ?_
  rintro e w1 ⟨Nv', vl, rfl, hA1, hat, hK1⟩
  have hbx1 := hK1.cellOf hbx (by decide) (by decide)
  obtain ⟨rn, hrn⟩ : ∃ rn, rn = rnOf r.1 who lv := ⟨_, rfl⟩
  obtain ⟨own, hownb⟩ : ∃ own, own = refOwn r.1 who lv := ⟨_, rfl⟩
  rw [← hrn, ← hownb] at hA1 hat
  rw [← hownb]
  obtain ⟨ns1, hns1⟩ : ∃ ns1, ns1 = nsOf ns own (rn, vl) := ⟨_, rfl⟩
  obtain ⟨at1, hat1⟩ : ∃ at1, at1 = atOf ns own n := ⟨_, rfl⟩
  rw [← hns1] at hA1 hat
  rw [← hat1] at hat ⊢
  have hl1 : ns1.length ≤ 1000 := by rw [hns1]; have := nsOf_len ns own (rn, vl); omega
  obtain ⟨g1, cap1, rfl, hlt1, hrg1, hfz1⟩ := hA1.node at1 (rn, vl) hat
  have hrL : rn.L = r.1.L := by rw [hrn]; rfl
  have hvl0 : OwnR base w1 vl rn.L := hA1.ls (rn, vl) (List.mem_of_getElem? hat)
  rw [hrL] at hvl0
  obtain ⟨A0, cv0, hvle⟩ := own_formR hvl0
  have HS := Lib.hid (⟨hrn, hownb, hns1, hat1⟩ : rn = rnOf r.1 who lv ∧ own = refOwn r.1 who lv ∧ ns1 = nsOf ns own (rn, vl) ∧ at1 = atOf ns own n)
  have HA1 := Lib.hid (hA1.drewN 1)
  have HK1 := Lib.hid (hK1.drewN 1)
  have HAT := Lib.hid hat
  have B3 : (at1 : Int) < (ns1.length : Int) := by omega
  have z1 : w1.cell? ⟨g1, at1 * 131 + 129, none⟩ = some vl := by
    have := hrg1 129 _ (rcells_get _ _ _ (by omega)); rw [rcell_l] at this; exact this
  have hS : (fun w' : World => w'.cell? ⟨xb, 0, none⟩ = some (.slice (some ⟨g1, 0, none⟩) ns1.length cap1) ∧ w'.cell? ⟨N, 0, none⟩ = some (.string pk) ∧ w'.cell? ⟨N, 1, none⟩ = some (.string pu) ∧ w'.cell? ⟨g1, at1 * 131 + 129, none⟩ = some vl) w1.drew := ⟨hA1.cells.1, hbx1.cell 0, hbx1.cell 1, z1⟩
  have hbxd : Blk w1.drew N 81 #[.string pk, .string pu] := hbx1
  have hvld : OwnR base w1.drew vl r.1.L := hvl0
  have hRdd : Rd w1.drew A0 r.1.L := by
    obtain ⟨A, c, e, hR⟩ := OwnR.rd hvld
    rw [hvle] at e
    simp only [Value.slice.injEq, true_and] at e
    rw [e.1]; exact hR
  have hbs1 : base ≤ w1.drew.heap.size := Nat.le_trans hbase (Nat.le_trans hB0.size hK1.below.size)
  clear hrn hownb hns1 hat1 hA1 hK1 hown HOwn c0 c1 hcb hbx hA0 hat hvl0 hbx1 z1 hrg1 hfz1 hrL
  subst hvle
  go_wp2_with fail
  refine wp_region_late (S := fun w' => w'.cell? ⟨xb, 0, none⟩ = some (.slice (some ⟨g1, 0, none⟩) ns1.length cap1) ∧ w'.cell? ⟨N, 0, none⟩ = some (.string pk) ∧ w'.cell? ⟨N, 1, none⟩ = some (.string pu) ∧ w'.cell? ⟨g1, at1 * 131 + 129, none⟩ = some (.slice A0 r.1.L.length cv0)) (st := 18) (by kernel_rfl) ?_
  change wpAnyL _ _ _ _ _ _ _ _ _ w1.drew
  replace HA1 : Hid (RefA base w1.drew xb (.slice (some ⟨g1, 0, none⟩) ns1.length cap1) Lv ns1 lv) := HA1
  replace HK1 : Hid (KeepA base W w1.drew) := HK1
  generalize w1.drew = W1 at *
  refine wpAnyL_take0 (i := 0) (oi := { dst := some 44, op := Go.Op.move (Go.Operand.tmp 0), type := 34, pos := "ref.go:57", after := #[], guard := none }) (v := .pointer (some ⟨xb, 0, none⟩)) rfl (by kernel_rfl) (by kernel_rfl) (by kernel_rfl) (by kernel_rfl) (fun _ _ _ h => h) hS (Or.inl ⟨by rfl, fun w hSw => ?_⟩) ?_
  · go_split_ands
    go_simp
  try simp only [Act.put, List.setIfInBounds_toArray, List.set_cons_zero, List.set_cons_succ]
  refine wpAnyL_take0 (i := 1) (oi := { dst := some 45, op := Go.Op.nilCheck (Go.Operand.tmp 44), type := 0, pos := "ref.go:57", after := #[{ on := 0, ground := Go.Ground.data }], guard := none }) (v := .pointer (some ⟨xb, 0, none⟩)) rfl (by kernel_rfl) (by kernel_rfl) (by kernel_rfl) (by kernel_rfl) (fun _ _ _ h => h) hS (Or.inl ⟨by rfl, fun w hSw => ?_⟩) ?_
  · go_split_ands
    go_simp
  try simp only [Act.put, List.setIfInBounds_toArray, List.set_cons_zero, List.set_cons_succ]
  refine wpAnyL_take0 (i := 2) (oi := { dst := some 46, op := Go.Op.fieldAddr 89 (Go.Operand.tmp 45) 0, type := 0, pos := "ref.go:57", after := #[{ on := 1, ground := Go.Ground.data }], guard := none }) (v := .pointer (some ⟨xb, 0, none⟩)) rfl (by kernel_rfl) (by kernel_rfl) (by kernel_rfl) (by kernel_rfl) (fun _ _ _ h => h) hS (Or.inl ⟨by rfl, fun w hSw => ?_⟩) ?_
  · go_split_ands
    go_simp
  try simp only [Act.put, List.setIfInBounds_toArray, List.set_cons_zero, List.set_cons_succ]
  refine wpAnyL_take (i := 3) (oi := { dst := some 47, op := Go.Op.load 86 (Go.Operand.tmp 46), type := 86, pos := "ref.go:57", after := #[{ on := 2, ground := Go.Ground.data }], guard := none }) (v := .slice (some ⟨g1, 0, none⟩) ns1.length cap1) rfl (by kernel_rfl) (by kernel_rfl) (by kernel_rfl) (by kernel_rfl) (fun _ _ _ h => h) hS (Or.inl ⟨by rfl, fun w hSw => ?_⟩) ?_
  · go_split_ands
    go_simp
  try simp only [Act.put, List.setIfInBounds_toArray, List.set_cons_zero, List.set_cons_succ]
  refine wpAnyL_take0 (i := 4) (oi := { dst := some 48, op := Go.Op.move (Go.Operand.tmp 11), type := 3, pos := "ref.go:57", after := #[], guard := none }) (v := .int .i64 at1) rfl (by kernel_rfl) (by kernel_rfl) (by kernel_rfl) (by kernel_rfl) (fun _ _ _ h => h) hS (Or.inl ⟨by rfl, fun w hSw => ?_⟩) ?_
  · go_split_ands
    go_simp
  try simp only [Act.put, List.setIfInBounds_toArray, List.set_cons_zero, List.set_cons_succ]
  refine wpAnyL_take0 (i := 5) (oi := { dst := some 49, op := Go.Op.move (Go.Operand.tmp 0), type := 34, pos := "ref.go:57", after := #[], guard := none }) (v := .pointer (some ⟨xb, 0, none⟩)) rfl (by kernel_rfl) (by kernel_rfl) (by kernel_rfl) (by kernel_rfl) (fun _ _ _ h => h) hS (Or.inl ⟨by rfl, fun w hSw => ?_⟩) ?_
  · go_split_ands
    go_simp
  try simp only [Act.put, List.setIfInBounds_toArray, List.set_cons_zero, List.set_cons_succ]
  refine wpAnyL_take0 (i := 6) (oi := { dst := some 50, op := Go.Op.nilCheck (Go.Operand.tmp 49), type := 0, pos := "ref.go:57", after := #[{ on := 5, ground := Go.Ground.data }], guard := none }) (v := .pointer (some ⟨xb, 0, none⟩)) rfl (by kernel_rfl) (by kernel_rfl) (by kernel_rfl) (by kernel_rfl) (fun _ _ _ h => h) hS (Or.inl ⟨by rfl, fun w hSw => ?_⟩) ?_
  · go_split_ands
    go_simp
  try simp only [Act.put, List.setIfInBounds_toArray, List.set_cons_zero, List.set_cons_succ]
  refine wpAnyL_take0 (i := 7) (oi := { dst := some 51, op := Go.Op.fieldAddr 89 (Go.Operand.tmp 50) 0, type := 0, pos := "ref.go:57", after := #[{ on := 6, ground := Go.Ground.data }], guard := none }) (v := .pointer (some ⟨xb, 0, none⟩)) rfl (by kernel_rfl) (by kernel_rfl) (by kernel_rfl) (by kernel_rfl) (fun _ _ _ h => h) hS (Or.inl ⟨by rfl, fun w hSw => ?_⟩) ?_
  · go_split_ands
    go_simp
  try simp only [Act.put, List.setIfInBounds_toArray, List.set_cons_zero, List.set_cons_succ]
  refine wpAnyL_take (i := 8) (oi := { dst := some 52, op := Go.Op.load 86 (Go.Operand.tmp 51), type := 86, pos := "ref.go:57", after := #[{ on := 7, ground := Go.Ground.data }], guard := none }) (v := .slice (some ⟨g1, 0, none⟩) ns1.length cap1) rfl (by kernel_rfl) (by kernel_rfl) (by kernel_rfl) (by kernel_rfl) (fun _ _ _ h => h) hS (Or.inl ⟨by rfl, fun w hSw => ?_⟩) ?_
  · go_split_ands
    go_simp
  try simp only [Act.put, List.setIfInBounds_toArray, List.set_cons_zero, List.set_cons_succ]
  refine wpAnyL_take0 (i := 9) (oi := { dst := some 53, op := Go.Op.move (Go.Operand.tmp 11), type := 3, pos := "ref.go:57", after := #[], guard := none }) (v := .int .i64 at1) rfl (by kernel_rfl) (by kernel_rfl) (by kernel_rfl) (by kernel_rfl) (fun _ _ _ h => h) hS (Or.inl ⟨by rfl, fun w hSw => ?_⟩) ?_
  · go_split_ands
    go_simp
  try simp only [Act.put, List.setIfInBounds_toArray, List.set_cons_zero, List.set_cons_succ]
  refine wpAnyL_take0 (i := 10) (oi := { dst := some 54, op := Go.Op.indexAddr 86 (Go.Operand.tmp 52) (Go.Operand.tmp 53), type := 0, pos := "ref.go:57", after := #[{ on := 8, ground := Go.Ground.data }, { on := 9, ground := Go.Ground.data }], guard := none }) (v := .pointer (some ⟨g1, at1 * 131, none⟩)) rfl (by kernel_rfl) (by kernel_rfl) (by kernel_rfl) (by kernel_rfl) (fun _ _ _ h => h) hS (Or.inl ⟨by rfl, fun w hSw => ?_⟩) ?_
  · go_split_ands
    go_simp
  try simp only [Act.put, List.setIfInBounds_toArray, List.set_cons_zero, List.set_cons_succ]
  refine wpAnyL_take0 (i := 11) (oi := { dst := some 55, op := Go.Op.fieldAddr 85 (Go.Operand.tmp 54) 4, type := 0, pos := "ref.go:57", after := #[{ on := 10, ground := Go.Ground.data }], guard := none }) (v := .pointer (some ⟨g1, at1 * 131 + 129, none⟩)) rfl (by kernel_rfl) (by kernel_rfl) (by kernel_rfl) (by kernel_rfl) (fun _ _ _ h => h) hS (Or.inl ⟨by rfl, fun w hSw => ?_⟩) ?_
  · go_split_ands
    go_simp
  try simp only [Act.put, List.setIfInBounds_toArray, List.set_cons_zero, List.set_cons_succ]
  refine wpAnyL_take (i := 12) (oi := { dst := some 56, op := Go.Op.load 83 (Go.Operand.tmp 55), type := 83, pos := "ref.go:57", after := #[{ on := 11, ground := Go.Ground.data }], guard := none }) (v := .slice A0 r.1.L.length cv0) rfl (by kernel_rfl) (by kernel_rfl) (by kernel_rfl) (by kernel_rfl) (fun _ _ _ h => h) hS (Or.inl ⟨by rfl, fun w hSw => ?_⟩) ?_
  · go_split_ands
    go_simp
  try simp only [Act.put, List.setIfInBounds_toArray, List.set_cons_zero, List.set_cons_succ]
  refine wpAnyL_take0 (i := 13) (oi := { dst := some 57, op := Go.Op.fieldAddr 81 (Go.Operand.tmp 9) 0, type := 0, pos := "ref.go:57", after := #[], guard := none }) (v := .pointer (some ⟨N, 0, none⟩)) rfl (by kernel_rfl) (by kernel_rfl) (by kernel_rfl) (by kernel_rfl) (fun _ _ _ h => h) hS (Or.inl ⟨by rfl, fun w hSw => ?_⟩) ?_
  · go_split_ands
    go_simp
  try simp only [Act.put, List.setIfInBounds_toArray, List.set_cons_zero, List.set_cons_succ]
  refine wpAnyL_take (i := 14) (oi := { dst := some 58, op := Go.Op.load 9 (Go.Operand.tmp 57), type := 9, pos := "ref.go:57", after := #[{ on := 13, ground := Go.Ground.data }], guard := none }) (v := .string pk) rfl (by kernel_rfl) (by kernel_rfl) (by kernel_rfl) (by kernel_rfl) (fun _ _ _ h => h) hS (Or.inl ⟨by rfl, fun w hSw => ?_⟩) ?_
  · go_split_ands
    go_simp
  try simp only [Act.put, List.setIfInBounds_toArray, List.set_cons_zero, List.set_cons_succ]
  refine wpAnyL_ready (rs := [15]) (by kernel_rfl) (by simp) ?_
  refine AllReadyL.cons (o := { dst := some 59, op := Go.Op.call { callee := Go.Callee.value (Go.Operand.func 69), args := #[Go.Operand.tmp 56, Go.Operand.tmp 58], argTypes := #[83, 9] }, type := 83, pos := "ref.go:57", after := #[{ on := 12, ground := Go.Ground.data }, { on := 14, ground := Go.Ground.data }], guard := none }) rfl (fun K hK => ?_) AllReadyL.nil
  go_simp
  have hcc := refDrop_any A0 cv0 r.1.L pk W1 hRdd (by omega)
  skip
  refine hcc.mono ?_
  rintro e w3 ⟨v', rfl, hO, hB3⟩
  go_wp2_with fail
  have hA3 := HA1.out.below hB3
  have hS3 : (fun w' : World => w'.cell? ⟨xb, 0, none⟩ = some (.slice (some ⟨g1, 0, none⟩) ns1.length cap1) ∧ w'.cell? ⟨N, 0, none⟩ = some (.string pk) ∧ w'.cell? ⟨N, 1, none⟩ = some (.string pu) ∧ w'.cell? ⟨g1, at1 * 131 + 129, none⟩ = some (.slice A0 r.1.L.length cv0)) w3 := ⟨hA3.cells.1, (hbxd.below hB3).cell 0, (hbxd.below hB3).cell 1, (hB3.cell (World.block_lt_of_cell? W1 _ hS.2.2.2)).trans hS.2.2.2⟩
  refine hK.out _ _ (fun _ => hS3) ?_
  clear hK K hS hcc
  try simp only [Act.put, List.setIfInBounds_toArray, List.set_cons_zero, List.set_cons_succ]
  have hS := hS3
  obtain ⟨A2, n2, q2, rfl⟩ : ∃ A n c, v' = .slice A n c := by
    rcases hO.2 with ⟨e, _⟩ | ⟨_, _, _, e, _⟩
    · exact ⟨_, _, _, e⟩
    · exact ⟨_, _, _, e⟩
  have hO' := hO.base (b' := base) hbs1
  obtain ⟨g2, cap2, e2, -, -, hfz3⟩ := hA3.node at1 (rn, .slice A0 r.1.L.length cv0) HAT.out
  simp only [Value.slice.injEq, Option.some.injEq, Addr.mk.injEq, and_true, true_and] at e2
  obtain ⟨rfl, rfl⟩ := e2
  have y1 := hfz3 (at1 * 131 + 129)
  have z1 := hS3.2.2.2
  have hput := RefA.putL hA3 at1 rn (.slice A0 r.1.L.length cv0) (.slice A2 n2 q2) (dropK r.1.L pk) HAT.out hO'
  have hKf := (KeepA.ofBelow (base := base) hB0 hbase).trans ((HK1.out.trans (KeepA.ofBelow hB3 hbs1)).trans hput.2)
  clear hA3 hfz3 hO hO'
  refine wpAnyL_take0 (i := 16) (oi := { dst := some 60, op := Go.Op.indexAddr 86 (Go.Operand.tmp 47) (Go.Operand.tmp 48), type := 0, pos := "ref.go:57", after := #[{ on := 3, ground := Go.Ground.data }, { on := 4, ground := Go.Ground.data }, { on := 0, ground := Go.Ground.phase }, { on := 1, ground := Go.Ground.phase }, { on := 2, ground := Go.Ground.phase }, { on := 3, ground := Go.Ground.phase }, { on := 4, ground := Go.Ground.phase }, { on := 5, ground := Go.Ground.phase }, { on := 6, ground := Go.Ground.phase }, { on := 7, ground := Go.Ground.phase }, { on := 8, ground := Go.Ground.phase }, { on := 9, ground := Go.Ground.phase }, { on := 10, ground := Go.Ground.phase }, { on := 11, ground := Go.Ground.phase }, { on := 12, ground := Go.Ground.phase }, { on := 13, ground := Go.Ground.phase }, { on := 14, ground := Go.Ground.phase }, { on := 15, ground := Go.Ground.phase }], guard := none }) (v := .pointer (some ⟨g1, at1 * 131, none⟩)) rfl (by kernel_rfl) (by kernel_rfl) (by kernel_rfl) (by kernel_rfl) (fun _ _ _ h => h) hS (Or.inl ⟨by rfl, fun w hSw => ?_⟩) ?_
  · go_split_ands
    go_simp
  try simp only [Act.put, List.setIfInBounds_toArray, List.set_cons_zero, List.set_cons_succ]
  refine wpAnyL_take0 (i := 17) (oi := { dst := some 61, op := Go.Op.fieldAddr 85 (Go.Operand.tmp 60) 4, type := 0, pos := "ref.go:57", after := #[{ on := 16, ground := Go.Ground.data }, { on := 0, ground := Go.Ground.phase }, { on := 1, ground := Go.Ground.phase }, { on := 2, ground := Go.Ground.phase }, { on := 3, ground := Go.Ground.phase }, { on := 4, ground := Go.Ground.phase }, { on := 5, ground := Go.Ground.phase }, { on := 6, ground := Go.Ground.phase }, { on := 7, ground := Go.Ground.phase }, { on := 8, ground := Go.Ground.phase }, { on := 9, ground := Go.Ground.phase }, { on := 10, ground := Go.Ground.phase }, { on := 11, ground := Go.Ground.phase }, { on := 12, ground := Go.Ground.phase }, { on := 13, ground := Go.Ground.phase }, { on := 14, ground := Go.Ground.phase }, { on := 15, ground := Go.Ground.phase }], guard := none }) (v := .pointer (some ⟨g1, at1 * 131 + 129, none⟩)) rfl (by kernel_rfl) (by kernel_rfl) (by kernel_rfl) (by kernel_rfl) (fun _ _ _ h => h) hS (Or.inl ⟨by rfl, fun w hSw => ?_⟩) ?_
  · go_split_ands
    go_simp
  try simp only [Act.put, List.setIfInBounds_toArray, List.set_cons_zero, List.set_cons_succ]
  refine wpAnyL_ready (rs := [18]) (by kernel_rfl) (by simp) ?_
  refine AllReadyL.cons (o := { dst := none, op := Go.Op.store 83 (Go.Operand.tmp 61) (Go.Operand.tmp 59), type := 0, pos := "ref.go:57", after := #[{ on := 17, ground := Go.Ground.data }, { on := 15, ground := Go.Ground.data }, { on := 15, ground := Go.Ground.chain }, { on := 0, ground := Go.Ground.phase }, { on := 1, ground := Go.Ground.phase }, { on := 2, ground := Go.Ground.phase }, { on := 3, ground := Go.Ground.phase }, { on := 4, ground := Go.Ground.phase }, { on := 5, ground := Go.Ground.phase }, { on := 6, ground := Go.Ground.phase }, { on := 7, ground := Go.Ground.phase }, { on := 8, ground := Go.Ground.phase }, { on := 9, ground := Go.Ground.phase }, { on := 10, ground := Go.Ground.phase }, { on := 11, ground := Go.Ground.phase }, { on := 12, ground := Go.Ground.phase }, { on := 13, ground := Go.Ground.phase }, { on := 14, ground := Go.Ground.phase }, { on := 15, ground := Go.Ground.phase }], guard := none }) rfl (fun K hK => ?_) AllReadyL.nil
  go_simp
  refine hK.out _ _ (late_noR (by kernel_rfl)) ?_
  clear hK K hS hS3
  try simp only [Act.put, List.setIfInBounds_toArray, List.set_cons_zero, List.set_cons_succ]
  refine wpAnyL_done (by kernel_rfl) ?_ _
  clear y1 z1
  generalize w3.setCell ⟨g1, at1 * 131 + 129, none⟩ (.slice A2 n2 q2) = W4 at *
  go_wp2_with fail
  go_ret
  obtain ⟨t1, t2, t3, t4⟩ := HS.out
  subst t1; subst t2; subst t3; subst t4
  exact ⟨_, _, _, rfl, hput.1, hKf⟩
end Go.Proofs.Ytgldgdpgbfejmaa
