/- Rotated queues, swapped tokens, rows of arguments. -/
import Derived.Test.YtchimfgbdfmegabHab
import Derived.OpenShut
import Derived.Test.YtchimfgbdfmegabHao
import Derived.Laws.AppendOwnNone
import Derived.Test.YtchimfgbdfmegabHan
namespace Go.Proofs.Ytchimfgbdfmegab
open Go.RowKit Go.Conc Go.ChangeShapes Go.WideShapes
set_option linter.unusedVariables false
set_option maxRecDepth 100000
set_option maxRecDepth 100000
set_option linter.unusedSimpArgs false
set_option linter.unnecessarySimpa false

/-- the row of ids, turned by i -/
def rot (k i : Nat) : List Nat := (List.range k).map fun m => 1 + (i + m) % k
theorem rot_length (k i : Nat) : (rot k i).length = k := by simp [rot]
theorem rot_zero (k : Nat) : rot k 0 = upto k := by
  apply List.ext_getElem (by simp [rot, upto])
  intro n h1 h2
  simp [rot] at h1
  simp only [rot, upto, List.getElem_map, List.getElem_range, List.getElem_range', Nat.zero_add, Nat.one_mul]
  rw [Nat.mod_eq_of_lt h1]
theorem rot_cons (k i : Nat) (h : 1 ≤ k) : ∃ tl, rot k i = (1 + i % k) :: tl ∧ tl ++ [1 + i % k] = rot k (i + 1) ∧ tl.length < k := by
  obtain ⟨m, rfl⟩ : ∃ m, k = m + 1 := ⟨k - 1, by omega⟩
  refine ⟨(List.range m).map fun j => 1 + (i + (j + 1)) % (m + 1), ?_, ?_, by simp⟩
  · unfold rot
    rw [List.range_succ_eq_map, List.map_cons, List.map_map]
    rfl
  · unfold rot
    rw [List.range_succ, List.map_append]
    congr 1
    · apply List.map_congr_left
      intro a _
      rw [show i + (a + 1) = i + 1 + a by omega]
    · simp only [List.map_cons, List.map_nil]
      rw [show i + 1 + m = i + (m + 1) by omega, Nat.add_mod_right]

/-- a slice of numbers that was handed in -/
def IsRow (k : IntKind) (w : World) (a : Option Addr) (len cap : Nat) (zs : List Int) : Prop :=
  (a = none ∧ len = 0 ∧ cap = 0 ∧ zs = []) ∨
  ∃ x, a = some x ∧ len ≤ cap ∧ cap ≤ maxLen ∧ zs.length = cap ∧ (∀ i, i < zs.length → w.cell? (x.add i) = some (.int k (zs.getD i 0))) ∧ ∀ n ∈ zs, (Lit.int k n).wf = true
theorem IsRow.at {w wr : World} {a : Option Addr} {len cap : Nat} {zs : List Int} (h : IsRow .u8 w a len cap zs) (hB : Below w.heap.size w wr) (j : Nat) (hj : j < len) :
    ∃ x z, a = some x ∧ wr.cell? (x.add j) = some (.int .u8 z) ∧ 0 ≤ z ∧ z ≤ 255 := by
  rcases h with ⟨_, h, _⟩ | ⟨x, rfl, hl, hm, hz, hcell, hwz⟩
  · omega
  · have hc := hcell j (by omega)
    have hw := hwz (zs.getD j 0) (by rw [List.getD_eq_getElem?_getD, List.getElem?_eq_getElem (by omega : j < zs.length)]; exact List.getElem_mem _)
    have hb := bounds_u8 hw
    exact ⟨x, _, rfl, (hB.cell (World.block_lt_of_cell? w _ hc)).trans hc, hb.1, hb.2⟩
theorem IsRow.len_le {w : World} {a : Option Addr} {len cap : Nat} {zs : List Int} (h : IsRow .u8 w a len cap zs) : len ≤ 9223372036854775807 := by
  rcases h with ⟨_, h, _⟩ | ⟨x, rfl, hl, hm, hz, hcell, hwz⟩
  · omega
  · unfold maxLen at hm; omega

/-- all of them are live, from the m-th on -/
def LiveFrom (m : Nat) (L : TL) : Prop := ∀ (i : Nat) (x : Nat × Nat × Bool), L[i]? = some x → m ≤ i → x.2.2 = true
theorem liveFrom_snoc {L : TL} (h : LiveFrom 0 L) (t i : Nat) : LiveFrom 0 (L ++ [(t, i, true)]) := by
  intro j x hx _
  rw [List.getElem?_append] at hx
  split at hx
  · exact h j x hx (Nat.zero_le _)
  · rw [List.getElem?_singleton] at hx
    split at hx
    · obtain rfl := Option.some.inj hx; rfl
    · cases hx
theorem liveFrom_set {L : TL} {m : Nat} (h : LiveFrom m L) (y : Nat × Nat × Bool) : LiveFrom (m + 1) (L.set m y) := by
  intro j x hx hj
  rw [List.getElem?_set_ne (by omega)] at hx
  exact h j x hx (by omega)
theorem liveFrom_swap {L : TL} (h : LiveFrom 0 L) {i j : Nat} {x y : Nat × Nat × Bool} (hx : L[i]? = some x) (hy : L[j]? = some y) : LiveFrom 0 ((L.set i y).set j x) := by
  intro n z hz _
  rw [List.getElem?_set] at hz
  split at hz
  · split at hz
    · obtain rfl := Option.some.inj hz; exact h i _ hx (Nat.zero_le _)
    · cases hz
  · rw [List.getElem?_set] at hz
    split at hz
    · split at hz
      · obtain rfl := Option.some.inj hz; exact h j _ hy (Nat.zero_le _)
      · cases hz
    · exact h n z hz (Nat.zero_le _)
/-- two of them change places -/
theorem Toks.swap {base : Nat} {w : World} {p g cap : Nat} {L : TL} (h : Toks base w p (.slice (some ⟨g, 0, none⟩) L.length cap) L) {i j : Nat} {x y : Nat × Nat × Bool} (hx : L[i]? = some x) (hy : L[j]? = some y) :
    Toks base ((w.setCell ⟨g, i, none⟩ (at0 y.1)).setCell ⟨g, j, none⟩ (at0 x.1)) p (.slice (some ⟨g, 0, none⟩) L.length cap) ((L.set i y).set j x) := by
  obtain ⟨hil, hix⟩ := List.getElem?_eq_some_iff.1 hx
  obtain ⟨hjl, hjy⟩ := List.getElem?_eq_some_iff.1 hy
  have h1 := h.row.stored i (at0 y.1)
  have h2 := h1.1.stored j (at0 x.1)
  have hperm : ((L.set i y).set j x).Perm L := by
    have := List.set_set_perm (i := i) (j := j) hil hjl
    rwa [hix, hjy] at this
  have hno : ∀ t ∈ L, t.1 ≠ g := fun t ht e => by
    obtain ⟨cur, hcur⟩ := own_cells h.row g rfl
    have := (h.tok t ht).1.no57 cur
    rw [e] at this
    exact this hcur
  refine ⟨?_, ?_, ?_⟩
  · rw [List.length_set, List.length_set, List.map_set, List.map_set]
    exact h2.1
  · intro z hz
    have hzL := hperm.mem_iff.1 hz
    have := h.tok z hzL
    exact ⟨Blk.far (Blk.far this.1 (hno z hzL) _) (hno z hzL) _, this.2⟩
  · exact ((hperm.map (·.1)).nodup_iff).2 h.nd
theorem Pool.setRow {base : Nat} {w : World} {p c k n g off : Nat} {out : Int} {q : List Nat} {v : Value} {xs : List Value} (h : Pool w p c k out q) (hrow : w.ownsRow base 49 1 v n xs) (hg : v.ownBlock = some g) (u : Value) : Pool (w.setCell ⟨g, off, none⟩ u) p c k out q := by
  have hn := fun cur => h.no57 cur
  obtain ⟨hb, s, r, hc⟩ := h
  obtain ⟨cur, hcur⟩ := own_cells hrow g hg
  refine ⟨Blk.far hb (fun e => ?_) u, s, r, (Below.heap_setCell w ⟨g, off, none⟩ u c (fun e => ?_)).trans hc⟩
  · simp at e; subst e; exact (hn cur).1 hcur
  · simp at e; subst e; exact (hn cur).2 hcur
end Go.Proofs.Ytchimfgbdfmegab
/- The law of ShapeTexts: bytes that are handed in, bytes and a text behind them. -/
namespace Go.Proofs.Ytchimfgbdfmegab
open Go.RowKit Go.Lib
set_option linter.unusedVariables false
set_option maxRecDepth 100000
set_option linter.unusedSimpArgs false
set_option linter.unnecessarySimpa false
set_option maxRecDepth 100000
/-- bytes that can be read -/
def RdB (w : World) (v : Value) (M : List Nat) : Prop := (v = .slice none 0 0 ∧ M = []) ∨ ∃ ad c, v = .slice (some ad) M.length c ∧ M.length ≤ c ∧ ∀ j u, (ubs M)[j]? = some u → w.cell? (ad.add j) = some u
theorem ubs_one {L : List Nat} : ∀ u ∈ ubs L, u.oneCell' = true := fun u hu => by
  unfold ubs at hu
  obtain ⟨n, _, rfl⟩ := List.mem_map.1 hu
  rfl
theorem OwnB.rd {base : Nat} {w : World} {v : Value} {M : List Nat} (h : OwnB base w v M) : RdB w v M := by
  rcases h.2 with ⟨h1, h0⟩ | ⟨g, cap, cur, rfl, _, _, hc, _⟩
  · exact .inl ⟨h1, List.length_eq_zero_iff.1 h0⟩
  · exact .inr ⟨⟨g, 0, none⟩, cap, rfl, hc, World.ownsRow.cells (show World.ownsRow _ _ _ _ _ _ _ from h) rfl⟩
theorem RdB.below {w w' : World} {v : Value} {M : List Nat} (h : RdB w v M) (hB : Below w.heap.size w w') : RdB w' v M := by
  rcases h with h | ⟨ad, c, h1, h2, h3⟩
  · exact .inl h
  · exact .inr ⟨ad, c, h1, h2, fun j u hu => (hB.cell (World.block_lt_of_cell? w _ (h3 j u hu))).trans (h3 j u hu)⟩
theorem wpList_appR {ops : Array Oper} {rest : List Oper} {o : Oper} {a : Act} {Q : Exit → Act → World → Prop} (w : World) (hgd : o.guard = none) (sl x : Operand)
    (ho : o.op = .call { callee := .builtin .append, args := #[sl, x], argTypes := #[41, 41] }) (base : Nat) (v v' : Value) (L M : List Nat) (hs : a.eval sl = v) (hx : a.eval x = v') (hv : OwnB base w v L) (hv' : RdB w v' M) (hl : L.length + M.length ≤ 10000000000) (hb : base ≤ w.heap.size)
    (h : ∀ u w', OwnB base w' u (L ++ M) → w.grownBy w' v.ownBlock → wpList Try.prog ops Q rest (a.put o.dst u) w') : wpList Try.prog ops Q (o :: rest) a w := by
  obtain ⟨i5, hi5, hy50, hy51, hy52⟩ := info_parts info5
  rcases hv' with ⟨h1, h0⟩ | ⟨ad, cap, rfl, _, hc⟩
  · subst h0
    subst h1
    refine wpList_append_own_none hgd sl x 41 ho base 5 i5 1 Try.underlying41 hi5 v L.length (ubs L) hs hv hx ?_
    exact h v w (by rw [List.append_nil]; exact hv) ⟨rfl, rfl, rfl, Nat.le_refl _, fun _ _ _ => rfl⟩
  · refine wpList_append_own_at w hgd sl x 41 ho base 5 i5 _ 1 1 Try.underlying41 hi5 hy50 hy51 hy52 zsz_u8 (by decide) v L.length (ubs L) hs hv ad M.length cap (ubs M) hx (by rw [ubs_len]; omega) hc ubs_one (by unfold maxLen; omega) (by omega) hb ?_
    intro u w' hown hg _ _
    refine h u w' ?_ hg
    unfold OwnB
    rw [List.length_append, ubs_app]
    exact hown
/-- the first n bytes that were handed in -/
theorem rd_arg {w : World} {a : Option Addr} {len cap : Nat} {zs : List Int} (h : IsRow .u8 w a len cap zs) (n : Nat) (hn : n ≤ len) : ∃ M : List Nat, M.length = n ∧ RdB w (.slice a n cap) M := by
  rcases h with ⟨rfl, rfl, rfl, _⟩ | ⟨x, rfl, hl, hm, hz, hcell, hwz⟩
  · obtain rfl : n = 0 := by omega
    exact ⟨[], rfl, .inl ⟨rfl, rfl⟩⟩
  · have hM : ((zs.take n).map Int.toNat).length = n := by rw [List.length_map, List.length_take]; omega
    refine ⟨(zs.take n).map Int.toNat, hM, .inr ⟨x, cap, by rw [hM], by omega, fun j u hu => ?_⟩⟩
    have hj : j < n := by
      have := (List.getElem?_eq_some_iff.1 hu).1
      rwa [ubs_len, hM] at this
    have hc := hcell j (by omega)
    have hw := hwz (zs.getD j 0) (by rw [List.getD_eq_getElem?_getD, List.getElem?_eq_getElem (by omega : j < zs.length)]; exact List.getElem_mem _)
    have hb := bounds_u8 hw
    rw [hc]
    unfold ubs at hu
    rw [List.map_map, List.getElem?_map, List.getElem?_take_of_lt hj, List.getElem?_eq_getElem (by omega : j < zs.length), Option.map_some] at hu
    rw [← hu, List.getD_eq_getElem?_getD, List.getElem?_eq_getElem (by omega : j < zs.length), Option.getD_some]
    rw [List.getD_eq_getElem?_getD, List.getElem?_eq_getElem (by omega : j < zs.length), Option.getD_some] at hb
    simp only [Function.comp]
    rw [Int.toNat_of_nonneg hb.1]
theorem own_litZ (w : World) : OwnB w.heap.size (w.alloc (.cells #[] 5)) (.slice (some ⟨w.heap.size, 0, none⟩) 0 0) [] :=
  World.ownsRow_lit w #[] 0 (Nat.le_refl _) (Nat.zero_le _) rfl
end Go.Proofs.Ytchimfgbdfmegab
/- How trees look as bytes; the reference's Shape. -/
namespace Go.Proofs.Ytchimfgbdfmegab
open Go.RowKit Go.Lib
set_option linter.unusedVariables false
set_option maxRecDepth 100000
set_option linter.unnecessarySimpa false
set_option linter.unusedSimpArgs false
set_option linter.unnecessarySimpa false
set_option maxRecDepth 100000
theorem step_appR {ops : Array Oper} {o : Oper} {a : Act} {w : World} {K : Act → World → Prop} {Q : Exit → Act → World → Prop} {E : Prop} (hgd : o.guard = none) (sl x : Operand)
    (ho : o.op = .call { callee := .builtin .append, args := #[sl, x], argTypes := #[41, 41] }) (base : Nat) (v v' : Value) (L M : List Nat) (hs : a.eval sl = v) (hx : a.eval x = v') (hv : OwnB base w v L) (hv' : RdB w v' M) (hl : L.length + M.length ≤ 10000000000) (hb : base ≤ w.heap.size)
    (h : ∀ u w', OwnB base w' u (L ++ M) → w.grownBy w' v.ownBlock → K (a.put o.dst u) w') : if Region.wanted o (yielded ops a.tmps) = true then Oper.wp Try.prog o a w K Q else E := by
  have hw : Region.wanted o (yielded ops a.tmps) = true := by simp [Region.wanted, hgd]
  rw [if_pos hw]
  obtain ⟨i5, hi5, hy50, hy51, hy52⟩ := info_parts info5
  rcases hv' with ⟨h1, h0⟩ | ⟨ad, cap, rfl, _, hc⟩
  · subst h0
    subst h1
    have hrun := run_append_owned_none (P := Try.prog) (w := w) base 41 o.type 5 i5 1 Try.underlying41 hi5 v L.length (ubs L) hv
    unfold Oper.wp
    simp [execOp, ho, resolve, invoke, builtin, hs, hx, hrun, Result.andThen]
    exact h v w (by rw [List.append_nil]; exact hv) ⟨rfl, rfl, rfl, Nat.le_refl _, fun _ _ _ => rfl⟩
  · obtain ⟨u, w', hr, h2, h3, -, -⟩ := run_append_own_at (P := Try.prog) w base 41 o.type 5 i5 _ 1 1 Try.underlying41 hi5 hy50 hy51 hy52 zsz_u8 (by decide) v L.length (ubs L) hv ad M.length cap (ubs M) (by rw [ubs_len]; omega) hc ubs_one (by unfold maxLen; omega) (by omega) hb
    unfold Oper.wp execOp
    simp only [ho, resolve, invoke, builtin, Sem.run_bind, Sem.run_pure, Result.andThen_ok, List.map_toArray, List.map_cons, List.map_nil, hs, hx, hr]
    refine h u w' ?_ h3
    unfold OwnB
    rw [List.length_append, ubs_app]
    exact h2
/-- what a node's value looks like -/
def valB : Option ByteArray → List Nat
  | none => [0]
  | some v => 1 :: textB v
def labS (t : RX) : ByteArray := ⟨t.lab.toArray⟩
/-- .. the node without its kids -/
def headB (t : RX) : List Nat := textB (labS t) ++ (valB t.val ++ twoB t.kids.length)
mutual
def shB : RX → List Nat
  | .node l v ks => headB (.node l v ks) ++ shBL ks
def shBL : List RX → List Nat
  | [] => []
  | k :: ks => shB k ++ shBL ks
end
theorem shB_eq (t : RX) : shB t = headB t ++ shBL t.kids := by cases t; rw [shB]; rfl
theorem shBL_cons (k : RX) (ks : List RX) : shBL (k :: ks) = shB k ++ shBL ks := by rw [shBL]
theorem shBL_append (xs ys : List RX) : shBL (xs ++ ys) = shBL xs ++ shBL ys := by
  induction xs with
  | nil => rw [shBL]; rfl
  | cons k xs ih => rw [List.cons_append, shBL_cons, shBL_cons, ih, List.append_assoc]
theorem lab_of {t : RX} {lab : ByteArray} (h : lab.data.toList = t.lab) : labS t = lab := bytes_ext (by unfold labS; simp [h])
theorem RdB.one (w : World) (n : Nat) : RdB (w.alloc (.cells #[.int .u8 n] 5)) (.slice (some ⟨w.heap.size, 0, none⟩) 1 1) [n] :=
  .inr ⟨⟨w.heap.size, 0, none⟩, 1, rfl, Nat.le_refl _, cell_one_new w 5 (.int .u8 n)⟩
theorem belowGrown {base : Nat} {w0 w w' : World} {v : Value} {L : List Nat} (h : Below base w0 w) (hg : w.grownBy w' v.ownBlock) (hv : OwnB base w v L) (hb : base ≤ w.heap.size) : Below base w0 w' := h.grown hg hb (own_ge hv)
set_option maxHeartbeats 2000000 in
theorem refShape_any : ∀ (t : RX), Few t → (shB t).length ≤ 1000000 → ∀ (R : Nat → Prop) (r : Nat) (w : World), RefW R w r t → Calls Try.prog 30 #[at0 r] w (MadeB (shB t) w) := by
  intro t
  induction t using RX.ind with
  | h t ih =>
    intro hf hL R r w hr
    have hfk : ∀ k ∈ t.kids, Few k := by cases hf with | mk _ h => exact h
    have hfn : t.kids.length ≤ 800 := by cases hf with | mk h _ => exact h
    have HIH := Lib.hid ih
    have HF := Lib.hid hfk
    cases hr with
    | @mk _ _ kv2 rs hM hRb hRk hKr =>
    obtain ⟨lab, val, f1, f2, hBr, r0, r1, r2, r3⟩ := hM.cells
    obtain ⟨A2, c2, hv2⟩ := hM.row.form
    have hMlen := hM.len
    have hrs : rs.length ≤ 800 := by omega
    have hlt := lab_of f1
    have hsh := shB_eq t
    have hhd : headB t = textB lab ++ (valB t.val ++ twoB rs.length) := by unfold headB; rw [hlt, hMlen]
    rw [hhd] at hsh
    have hll : (shB t).length = (textB lab).length + (valB t.val).length + (twoB rs.length).length + (shBL t.kids).length := by rw [hsh]; simp; omega
    have htl := textB_len lab
    have hls : lab.size ≤ 1000000 := by omega
    have kt := refText_any lab w (by omega)
    subst hv2 f2
    have HM := Lib.hid hM
    have HKR := Lib.hid hKr
    have HBR := Lib.hid hBr
    have HML := Lib.hid hMlen
    have HSH := Lib.hid hsh
    have HLT := Lib.hid hlt
    have hrl := hBr.lt
    clear ih hf hfk hM hKr hBr hMlen hRb hRk f1 hsh hhd hlt htl
    have HHD := Lib.hid (show headB t = textB lab ++ (valB t.val ++ twoB rs.length) by unfold headB; rw [HLT.out, HML.out])
    have HSE := Lib.hid (shB_eq t)
    cases hv : t.val with
    | some wv =>
      rw [hv] at r1 r2 HBR
      simp only [Option.getD_some, Option.isSome_some] at r1 r2 HBR
      have hvl : (valB t.val).length = 1 + (wv.size + 2) := by rw [hv]; simp [valB, textB_len]; omega
      have hlw : (textB wv).length ≤ 1000000 := by rw [textB_len]; omega
      have hl1 : (textB lab).length ≤ 1000000 := by omega
      have hl6 : (textB lab ++ [1] ++ textB wv).length ≤ 3000000 := by rw [List.length_append, List.length_append, List.length_singleton]; omega
      unfold at0
      go_enter Try.func30, Try.ntmps30
      go_wp2_with fail
      refine kt.mono ?_
      rintro e w1 ⟨v3, rfl, ho1, hB1⟩
      have r1' := (hB1.cell hrl).trans r1
      have rv := (hB1.cell hrl).trans r2
      have hr1l : r < w1.heap.size := Nat.lt_of_lt_of_le hrl hB1.size
      have hBa : Below w1.heap.size w1 (w1.alloc (.cells #[.int .u8 1] 5)).drew := ((Below.refl _ w1).alloc (Nat.le_refl _) _).drew
      have hBwa := hB1.trans (hBa.mono hB1.size)
      have hsza := hBwa.size
      have ho1a := ho1.below hBa
      clear kt r1
      go_wp2_with fail
      refine wp_region_late (S := fun w' : World => w'.cell? ⟨r, 2, none⟩ = some (.string wv)) (st := 9) (by kernel_rfl) ?_
      have hS : (fun w' : World => w'.cell? ⟨r, 2, none⟩ = some (.string wv)) w1.drew := rv
      refine wpAnyL_take0 (i := 0) (oi := { dst := some 15, op := Go.Op.move (Go.Operand.tmp 3), type := 41, pos := "ref.go:68", after := #[], guard := none }) (v := v3) rfl (by kernel_rfl) (by kernel_rfl) (by kernel_rfl) (by kernel_rfl) (fun _ _ _ h => h) hS (Or.inl ⟨by rfl, fun w hSw => ?_⟩) ?_
      · go_split_ands
        go_simp
      try simp only [Act.put, List.setIfInBounds_toArray, List.set_cons_zero, List.set_cons_succ]
      refine wpAnyL_take0 (i := 3) (oi := { dst := some 18, op := Go.Op.move (Go.Operand.tmp 0), type := 63, pos := "ref.go:68", after := #[], guard := none }) (v := .pointer (some ⟨r, 0, none⟩)) rfl (by kernel_rfl) (by kernel_rfl) (by kernel_rfl) (by kernel_rfl) (fun _ _ _ h => h) hS (Or.inl ⟨by rfl, fun w hSw => ?_⟩) ?_
      · go_split_ands
        go_simp
      try simp only [Act.put, List.setIfInBounds_toArray, List.set_cons_zero, List.set_cons_succ]
      refine wpAnyL_take0 (i := 4) (oi := { dst := some 19, op := Go.Op.nilCheck (Go.Operand.tmp 18), type := 0, pos := "ref.go:68", after := #[{ on := 3, ground := Go.Ground.data }], guard := none }) (v := .pointer (some ⟨r, 0, none⟩)) rfl (by kernel_rfl) (by kernel_rfl) (by kernel_rfl) (by kernel_rfl) (fun _ _ _ h => h) hS (Or.inl ⟨by rfl, fun w hSw => ?_⟩) ?_
      · go_split_ands
        go_simp
      try simp only [Act.put, List.setIfInBounds_toArray, List.set_cons_zero, List.set_cons_succ]
      refine wpAnyL_take0 (i := 5) (oi := { dst := some 20, op := Go.Op.fieldAddr 84 (Go.Operand.tmp 19) 2, type := 0, pos := "ref.go:68", after := #[{ on := 4, ground := Go.Ground.data }], guard := none }) (v := .pointer (some ⟨r, 2, none⟩)) rfl (by kernel_rfl) (by kernel_rfl) (by kernel_rfl) (by kernel_rfl) (fun _ _ _ h => h) hS (Or.inl ⟨by rfl, fun w hSw => ?_⟩) ?_
      · go_split_ands
        go_simp
      try simp only [Act.put, List.setIfInBounds_toArray, List.set_cons_zero, List.set_cons_succ]
      refine wpAnyL_take (i := 6) (oi := { dst := some 21, op := Go.Op.load 9 (Go.Operand.tmp 20), type := 9, pos := "ref.go:68", after := #[{ on := 5, ground := Go.Ground.data }], guard := none }) (v := .string wv) rfl (by kernel_rfl) (by kernel_rfl) (by kernel_rfl) (by kernel_rfl) (fun _ _ _ h => h) hS (Or.inl ⟨by rfl, fun w hSw => ?_⟩) ?_
      · go_split_ands
        go_simp
      try simp only [Act.put, List.setIfInBounds_toArray, List.set_cons_zero, List.set_cons_succ]
      refine wpAnyL_ready (rs := [1]) (by kernel_rfl) (by simp) ?_
      refine AllReadyL.cons (o := { dst := some 16, op := Go.Op.buildSlice 41 1 #[(0, Go.Operand.const (Go.Value.int Go.IntKind.u8 1))], type := 41, pos := "ref.go:68", after := #[], guard := none }) rfl (fun K hK => ?_) AllReadyL.nil
      go_simp
      have hSn : (fun w' : World => w'.cell? ⟨r, 2, none⟩ = some (.string wv)) _ := (hBa.cell hr1l).trans hS
      refine hK.out _ _ (fun _ => hSn) ?_
      clear hK K hS
      try simp only [Act.put, List.setIfInBounds_toArray, List.set_cons_zero, List.set_cons_succ]
      have hS := hSn
      clear hSn
      refine wpAnyL_ready (rs := [2]) (by kernel_rfl) (by simp) ?_
      refine AllReadyL.cons (o := { dst := some 17, op := Go.Op.call { callee := Go.Callee.builtin Go.Builtin.append, args := #[Go.Operand.tmp 15, Go.Operand.tmp 16], argTypes := #[41, 41] }, type := 41, pos := "ref.go:68", after := #[{ on := 0, ground := Go.Ground.data }, { on := 1, ground := Go.Ground.data }], guard := none }) rfl (fun K hK => ?_) AllReadyL.nil
      refine step_appR rfl _ _ rfl w.heap.size v3 (.slice (some ⟨w1.heap.size, 0, none⟩) 1 1) (textB lab) [1] (by rfl) (by rfl) ho1a (RdB.one w1 1) (by simp; omega) hsza ?_
      intro v4 w4 ho4 hg4
      have hB4 := belowGrown hBwa hg4 ho1a hsza
      have hSn : (fun w' : World => w'.cell? ⟨r, 2, none⟩ = some (.string wv)) _ := (hB4.cell hrl).trans r2
      refine hK.out _ _ (fun _ => hSn) ?_
      clear hK K hS
      try simp only [Act.put, List.setIfInBounds_toArray, List.set_cons_zero, List.set_cons_succ]
      have hS := hSn
      clear hSn
      refine wpAnyL_ready (rs := [7]) (by kernel_rfl) (by simp) ?_
      refine AllReadyL.cons (o := { dst := some 22, op := Go.Op.call { callee := Go.Callee.value (Go.Operand.func 48), args := #[Go.Operand.tmp 21], argTypes := #[9] }, type := 41, pos := "ref.go:68", after := #[{ on := 6, ground := Go.Ground.data }, { on := 2, ground := Go.Ground.chain }], guard := none }) rfl (fun K hK => ?_) AllReadyL.nil
      go_simp
      refine (refText_any wv w4 (by omega)).mono ?_
      rintro e w5 ⟨v5, rfl, ho5, hB5⟩
      go_wp2_with fail
      have hSn : (fun w' : World => w'.cell? ⟨r, 2, none⟩ = some (.string wv)) _ := (hB5.cell (Nat.lt_of_lt_of_le hrl hB4.size)).trans hS
      refine hK.out _ _ (fun _ => hSn) ?_
      clear hK K hS
      try simp only [Act.put, List.setIfInBounds_toArray, List.set_cons_zero, List.set_cons_succ]
      have hS := hSn
      clear hSn
      have ho45 := ho4.below hB5
      have hB45 := hB4.trans (hB5.mono hB4.size)
      refine wpAnyL_ready (rs := [8]) (by kernel_rfl) (by simp) ?_
      refine AllReadyL.cons (o := { dst := some 23, op := Go.Op.call { callee := Go.Callee.builtin Go.Builtin.append, args := #[Go.Operand.tmp 17, Go.Operand.tmp 22], argTypes := #[41, 41] }, type := 41, pos := "ref.go:68", after := #[{ on := 2, ground := Go.Ground.data }, { on := 7, ground := Go.Ground.data }, { on := 7, ground := Go.Ground.chain }], guard := none }) rfl (fun K hK => ?_) AllReadyL.nil
      refine step_appR rfl _ _ rfl w.heap.size v4 v5 (textB lab ++ [1]) (textB wv) (by rfl) (by rfl) ho45 ho5.rd (by rw [List.length_append, List.length_singleton]; omega) hB45.size ?_
      intro v6 w6 ho6 hg6
      have hB6 := belowGrown hB45 hg6 ho45 hB45.size
      have hSn : (fun w' : World => w'.cell? ⟨r, 2, none⟩ = some (.string wv)) _ := (hB6.cell hrl).trans r2
      refine hK.out _ _ (fun _ => hSn) ?_
      clear hK K hS
      try simp only [Act.put, List.setIfInBounds_toArray, List.set_cons_zero, List.set_cons_succ]
      have hS := hSn
      clear hSn
      refine wpAnyL_ready (rs := [9]) (by kernel_rfl) (by simp) ?_
      refine AllReadyL.cons (o := { dst := some 3, op := Go.Op.assign (Go.Operand.tmp 23), type := 41, pos := "ref.go:68", after := #[{ on := 8, ground := Go.Ground.data }, { on := 8, ground := Go.Ground.chain }, { on := 0, ground := Go.Ground.phase }, { on := 1, ground := Go.Ground.phase }, { on := 2, ground := Go.Ground.phase }, { on := 3, ground := Go.Ground.phase }, { on := 4, ground := Go.Ground.phase }, { on := 5, ground := Go.Ground.phase }, { on := 6, ground := Go.Ground.phase }, { on := 7, ground := Go.Ground.phase }, { on := 8, ground := Go.Ground.phase }], guard := none }) rfl (fun K hK => ?_) AllReadyL.nil
      go_simp
      refine hK.out _ _ (late_no (by kernel_rfl)) ?_
      clear hK K
      try simp only [Act.put, List.setIfInBounds_toArray, List.set_cons_zero, List.set_cons_succ]
      refine wpAnyL_done (by kernel_rfl) ?_ _
      have k2 := refTwo_any rs.length w6 (by omega)
      obtain ⟨⟨b0, b1, b2, b3⟩, -⟩ := four ((show Blk w6 r 84 _ from (hB6.block r hrl).trans HBR.out))
      go_wp2_with fail
      refine k2.mono ?_
      rintro e w7 ⟨v7, rfl, ho7, hB7⟩
      have ho67 := ho6.below hB7
      have hB67 := hB6.trans (hB7.mono hB6.size)
      have hsz7 := hB67.size
      have hrd7 := ho7.rd
      have hltw : (twoB rs.length).length = 2 := rfl
      clear ho6 ho7 k2
      go_wp2_with (at_builtin; refine wpList_appR _ rfl _ _ rfl w.heap.size v6 v7 (textB lab ++ [1] ++ textB wv) (twoB rs.length) rfl rfl ho67 hrd7 (by rw [hltw]; omega) hsz7 ?_; intro v8 w8 ho8 hg8; have hB8 := belowGrown hB67 hg8 ho67 hsz7; have b3' : w8.cell? ⟨r, 3, none⟩ = some (.slice A2 rs.length c2) := (hB8.cell hrl).trans r3)
      have hL8 : (textB lab ++ [1] ++ textB wv) ++ twoB rs.length = headB t := by rw [HHD.out, hv]; simp [valB]
      rw [hL8] at ho8
      have hv8 : True := trivial
      clear ho67 hg8 hrd7 b3
      obtain ⟨N, hNe⟩ : ∃ N, N = rs.length := ⟨_, rfl⟩
      have HNE := Lib.hid hNe
      have HVV := Lib.hid hv
      rw [← hNe] at b3'
      have hN8 : N ≤ 800 := by omega
      clear hNe hv hL8
      go_wp2_with fail
      go_loopw [3, 40] (fun vo vi wr => ∃ j : Nat, j ≤ N ∧ vi = .int .i64 j ∧ OwnB w.heap.size wr vo (headB t ++ shBL (t.kids.take j)) ∧ Below w.heap.size w wr) (fun vo vi wr => N - (intOf vi).toNat)
      case atStart => exact ⟨0, by omega, rfl, by simpa [shBL] using ho8, hB8⟩
      case round =>
        obtain ⟨j, hj, rfl, hO, hB⟩ := hrel
        clear ho8 hB8 b3'
        by_cases hlt : j < N
        · have hjr : j < rs.length := by rw [← HNE.out]; exact hlt
          have hjk : j < t.kids.length := by rw [← HML.out]; exact hjr
          obtain ⟨g2, q2, e2, d2⟩ := (HM.out.row.stay hB).at_ j hjr
          simp only [Value.slice.injEq] at e2
          obtain ⟨rfl, -, -⟩ := e2
          have hrb : rs[j]? = some (rs.getD j 0) := by rw [List.getD_eq_getElem?_getD, List.getElem?_eq_getElem hjr]; rfl
          have hkm := rat_mem hjk
          have htk : t.kids.take (j + 1) = t.kids.take j ++ [rat t.kids j] := by rw [List.take_add_one, rat_get hjk]; rfl
          have hshj : shBL (t.kids.take (j + 1)) = shBL (t.kids.take j) ++ shB (rat t.kids j) := by rw [htk, shBL_append, shBL_cons]; simp [shBL]
          have hsplit : shBL t.kids = shBL (t.kids.take (j + 1)) ++ shBL (t.kids.drop (j + 1)) := by rw [← shBL_append, List.take_append_drop]
          have hle := congrArg List.length hsplit
          rw [List.length_append] at hle
          have hle2 := congrArg List.length hshj
          rw [List.length_append] at hle2
          have hhl : (headB t).length + (shBL t.kids).length ≤ 1000000 := by
            have h := congrArg List.length HSE.out
            rw [List.length_append] at h; omega
          have kj := HIH.out _ hkm (HF.out _ hkm) (by omega) R _ _ ((HKR.out j _ _ hrb (rat_get hjk)).stay hB)
          generalize rs.getD j 0 = rb at *
          have hjN : (j : Int) < (N : Int) := by omega
          have E3 : IntKind.i64.wrap ((j : Int) + 1) = ((j + 1 : Nat) : Int) := by rw [IntWalk.i64_in _ (by omega)]; omega
          have HSJ := Lib.hid hshj
          have hlj : (headB t ++ shBL (t.kids.take j)).length ≤ 1000000 ∧ (shB (rat t.kids j)).length ≤ 1000000 := by rw [List.length_append]; omega
          unfold at0 at d2 kj
          clear hshj htk hsplit hle hle2 hhl hrb hkm
          go_wp2_with fail
          refine kj.mono ?_
          rintro e w9 ⟨v9, rfl, ho9, hB9⟩
          have hO9 := hO.below hB9
          have hB10 := hB.trans (hB9.mono hB.size)
          have hsz := hB10.size
          have hrd := ho9.rd
          clear kj hO ho9
          go_wp2_with (at_builtin; refine wpList_appR _ rfl _ _ rfl w.heap.size u3 v9 (headB t ++ shBL (t.kids.take j)) (shB (rat t.kids j)) rfl rfl hO9 hrd (by omega) hsz ?_; intro v10 w10 ho10 hg10)
          have hB11 := belowGrown hB10 hg10 hO9 hsz
          exact ⟨⟨j + 1, by omega, by go_num, by rw [HSJ.out, ← List.append_assoc]; exact ho10, hB11⟩, by simp [intOf]; omega⟩
        · have hjN : ¬ ((j : Int) < (N : Int)) := by omega
          have hje : t.kids.take j = t.kids := List.take_of_length_le (by rw [← HML.out, ← HNE.out]; omega)
          rw [hje, ← HSE.out] at hO
          clear hje
          have hjN2 : ¬ ((j : Int) < (rs.length : Int)) := by rw [← HNE.out]; exact hjN
          go_wp2_with fail
          go_ret
          exact ⟨_, rfl, hO, hB⟩
    | none =>
      rw [hv] at r1 r2 HBR
      simp only [Option.getD_none, Option.isSome_none] at r1 r2 HBR
      have hvl : (valB t.val).length = 1 := by rw [hv]; rfl
      have hl1 : (textB lab).length ≤ 1000000 := by omega
      have hl6 : (textB lab ++ [0]).length ≤ 3000000 := by rw [List.length_append, List.length_singleton]; omega
      unfold at0
      go_enter Try.func30, Try.ntmps30
      go_wp2_with fail
      refine kt.mono ?_
      rintro e w1 ⟨v3, rfl, ho1, hB1⟩
      have r1' := (hB1.cell hrl).trans r1
      have hBa : Below w1.heap.size w1 (w1.alloc (.cells #[.int .u8 0] 5)) := (Below.refl _ w1).alloc (Nat.le_refl _) _
      have hBwa := hB1.trans (hBa.mono hB1.size)
      have hsza := hBwa.size
      have ho1a := ho1.below hBa
      have hrd1 := RdB.one w1 0
      clear kt r1
      go_wp2_with (at_builtin; refine wpList_appR _ rfl _ _ rfl w.heap.size v3 (.slice (some ⟨w1.heap.size, 0, none⟩) 1 1) (textB lab) [0] rfl rfl ho1a hrd1 (by simp; omega) hsza ?_; intro v6 w6 ho6 hg6; have hB6 := belowGrown hBwa hg6 ho1a hsza; have b3 : w6.cell? ⟨r, 3, none⟩ = some (.slice A2 rs.length c2) := (hB6.cell hrl).trans r3)
      have k2 := refTwo_any rs.length w6 (by omega)
      refine k2.mono ?_
      rintro e w7 ⟨v7, rfl, ho7, hB7⟩
      have ho67 := ho6.below hB7
      have hB67 := hB6.trans (hB7.mono hB6.size)
      have hsz7 := hB67.size
      have hrd7 := ho7.rd
      have hltw : (twoB rs.length).length = 2 := rfl
      clear ho6 ho7 k2
      go_wp2_with (at_builtin; refine wpList_appR _ rfl _ _ rfl w.heap.size v6 v7 (textB lab ++ [0]) (twoB rs.length) rfl rfl ho67 hrd7 (by rw [hltw]; omega) hsz7 ?_; intro v8 w8 ho8 hg8; have hB8 := belowGrown hB67 hg8 ho67 hsz7; have b3' : w8.cell? ⟨r, 3, none⟩ = some (.slice A2 rs.length c2) := (hB8.cell hrl).trans r3)
      have hL8 : (textB lab ++ [0]) ++ twoB rs.length = headB t := by rw [HHD.out, hv]; simp [valB]
      rw [hL8] at ho8
      have hv8 : True := trivial
      clear ho67 hg8 hrd7 b3
      obtain ⟨N, hNe⟩ : ∃ N, N = rs.length := ⟨_, rfl⟩
      have HNE := Lib.hid hNe
      have HVV := Lib.hid hv
      rw [← hNe] at b3'
      have hN8 : N ≤ 800 := by omega
      clear hNe hv hL8
      go_wp2_with fail
      go_loopw [3, 40] (fun vo vi wr => ∃ j : Nat, j ≤ N ∧ vi = .int .i64 j ∧ OwnB w.heap.size wr vo (headB t ++ shBL (t.kids.take j)) ∧ Below w.heap.size w wr) (fun vo vi wr => N - (intOf vi).toNat)
      case atStart => exact ⟨0, by omega, rfl, by simpa [shBL] using ho8, hB8⟩
      case round =>
        obtain ⟨j, hj, rfl, hO, hB⟩ := hrel
        clear ho8 hB8 b3'
        by_cases hlt : j < N
        · have hjr : j < rs.length := by rw [← HNE.out]; exact hlt
          have hjk : j < t.kids.length := by rw [← HML.out]; exact hjr
          obtain ⟨g2, q2, e2, d2⟩ := (HM.out.row.stay hB).at_ j hjr
          simp only [Value.slice.injEq] at e2
          obtain ⟨rfl, -, -⟩ := e2
          have hrb : rs[j]? = some (rs.getD j 0) := by rw [List.getD_eq_getElem?_getD, List.getElem?_eq_getElem hjr]; rfl
          have hkm := rat_mem hjk
          have htk : t.kids.take (j + 1) = t.kids.take j ++ [rat t.kids j] := by rw [List.take_add_one, rat_get hjk]; rfl
          have hshj : shBL (t.kids.take (j + 1)) = shBL (t.kids.take j) ++ shB (rat t.kids j) := by rw [htk, shBL_append, shBL_cons]; simp [shBL]
          have hsplit : shBL t.kids = shBL (t.kids.take (j + 1)) ++ shBL (t.kids.drop (j + 1)) := by rw [← shBL_append, List.take_append_drop]
          have hle := congrArg List.length hsplit
          rw [List.length_append] at hle
          have hle2 := congrArg List.length hshj
          rw [List.length_append] at hle2
          have hhl : (headB t).length + (shBL t.kids).length ≤ 1000000 := by
            have h := congrArg List.length HSE.out
            rw [List.length_append] at h; omega
          have kj := HIH.out _ hkm (HF.out _ hkm) (by omega) R _ _ ((HKR.out j _ _ hrb (rat_get hjk)).stay hB)
          generalize rs.getD j 0 = rb at *
          have hjN : (j : Int) < (N : Int) := by omega
          have E3 : IntKind.i64.wrap ((j : Int) + 1) = ((j + 1 : Nat) : Int) := by rw [IntWalk.i64_in _ (by omega)]; omega
          have HSJ := Lib.hid hshj
          have hlj : (headB t ++ shBL (t.kids.take j)).length ≤ 1000000 ∧ (shB (rat t.kids j)).length ≤ 1000000 := by rw [List.length_append]; omega
          unfold at0 at d2 kj
          clear hshj htk hsplit hle hle2 hhl hrb hkm
          go_wp2_with fail
          refine kj.mono ?_
          rintro e w9 ⟨v9, rfl, ho9, hB9⟩
          have hO9 := hO.below hB9
          have hB10 := hB.trans (hB9.mono hB.size)
          have hsz := hB10.size
          have hrd := ho9.rd
          clear kj hO ho9
          go_wp2_with (at_builtin; refine wpList_appR _ rfl _ _ rfl w.heap.size u3 v9 (headB t ++ shBL (t.kids.take j)) (shB (rat t.kids j)) rfl rfl hO9 hrd (by omega) hsz ?_; intro v10 w10 ho10 hg10)
          have hB11 := belowGrown hB10 hg10 hO9 hsz
          exact ⟨⟨j + 1, by omega, by go_num, by rw [HSJ.out, ← List.append_assoc]; exact ho10, hB11⟩, by simp [intOf]; omega⟩
        · have hjN : ¬ ((j : Int) < (N : Int)) := by omega
          have hje : t.kids.take j = t.kids := List.take_of_length_le (by rw [← HML.out, ← HNE.out]; omega)
          rw [hje, ← HSE.out] at hO
          clear hje
          have hjN2 : ¬ ((j : Int) < (rs.length : Int)) := by rw [← HNE.out]; exact hjN
          go_wp2_with fail
          go_ret
          exact ⟨_, rfl, hO, hB⟩
end Go.Proofs.Ytchimfgbdfmegab
