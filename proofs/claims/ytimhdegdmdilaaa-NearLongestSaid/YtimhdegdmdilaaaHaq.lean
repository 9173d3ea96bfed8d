/- Label, Kids. -/
import Derived.Test.YtimhdegdmdilaaaHak
import Derived.Test.YtimhdegdmdilaaaHad
import Derived.Test.YtimhdegdmdilaaaHag
import Derived.Test.YtimhdegdmdilaaaHap
namespace Go.Proofs.Ytimhdegdmdilaaa
open Go.RowKit Go.Lib
set_option linter.unusedVariables false
set_option maxRecDepth 100000
set_option linter.unnecessarySimpa false
set_option linter.unusedSimpArgs false
set_option linter.unnecessarySimpa false
set_option maxRecDepth 100000
theorem label_any (P : Nat → Prop) (b : Nat) (t : RX) (w : World) (h : RadW P w b t) : ∃ lab : ByteArray, lab.data.toList = t.lab ∧ ∀ W, Below w.heap.size w W → Calls Try.prog 67 #[at0 b] W fun e w' => e = .returned (.string lab) ∧ W = w' := by
  cases h with
  | mk h1 =>
    obtain ⟨o, lab, val, sh, e1, e2, hB, c0, c1, c2, c3, c4, c5⟩ := h1.cells
    refine ⟨lab, e1, fun W hW => ?_⟩
    have c1' := (hB.stay hW).cell 1
    simp only [List.getElem?_toArray, List.getElem?_cons_succ, List.getElem?_cons_zero] at c1'
    clear h1 hB e1 e2 c0 c1 c2 c3 c4 c5
    unfold at0
    go_enter Try.func67, Try.ntmps67
    go_wp2_with fail
    go_ret
    exact ⟨rfl, rfl⟩
theorem kids_any (base b : Nat) (t : RX) (kv : Value) (bs : List Nat) (w : World) (h : Nod base w b t kv bs) (hn : bs.length ≤ 900) : Calls Try.prog 64 #[at0 b] w (CloneK bs w) := by
  have kc := clone_kids base kv bs w h.row hn
  obtain ⟨o, lab, val, sh, e1, e2, hB, c0, c1, c2, c3, c4, c5⟩ := h.cells
  obtain ⟨A, n, c, rfl⟩ := h.row.form
  clear h hB e1 e2
  unfold at0
  go_enter Try.func64, Try.ntmps64
  go_wp2_with fail
  refine kc.mono ?_
  rintro e w' ⟨v, rfl, hO, hB2⟩
  obtain ⟨A', n', c', rfl⟩ := hO.form
  go_wp2_with fail
  go_ret
  exact ⟨_, rfl, hO, hB2⟩
end Go.Proofs.Ytimhdegdmdilaaa
/- Nearest keys in radix trees: plain mathematics. -/
namespace Go.Proofs.Ytimhdegdmdilaaa
open Go.RowKit Go.Lib
set_option linter.unusedVariables false
set_option maxRecDepth 100000
set_option linter.unnecessarySimpa false
set_option linter.unusedSimpArgs false
set_option linter.unnecessarySimpa false
/-- how a child's label stands to what follows in a key -/
def ordL (l r : List UInt8) : Int := if l <+: r then 0 else compareBytes l r
theorem ordL_zero {l r : List UInt8} : ordL l r = 0 ↔ l <+: r := by
  unfold ordL
  constructor
  · intro h
    split at h
    · assumption
    · rw [cb_zero] at h
      rw [h]
      exact List.prefix_refl _
  · intro h; rw [if_pos h]
theorem ordL_out : ∀ {l r : List UInt8}, ¬ l <+: r → ∀ y, compareBytes (l ++ y) r = compareBytes l r
  | [], r, h, y => absurd List.nil_prefix h
  | a :: l, [], h, y => by simp [compareBytes]
  | a :: l, b :: r, h, y => by
    simp only [List.cons_append, compareBytes]
    split
    · rfl
    · split
      · rfl
      · rename_i h1 h2
        have e : a = b := UInt8.toNat_inj.1 (by rw [UInt8.lt_iff_toNat_lt] at h1 h2; omega)
        subst e
        exact ordL_out (fun hp => h (by rw [List.cons_prefix_cons]; exact ⟨rfl, hp⟩)) y
theorem ordL_lt {l r : List UInt8} (h : ordL l r < 0) (y : List UInt8) : compareBytes (l ++ y) r < 0 := by
  unfold ordL at h
  split at h
  · omega
  · rename_i hp; rw [ordL_out hp]; exact h
theorem ordL_gt {l r : List UInt8} (h : 0 < ordL l r) (y : List UInt8) : 0 < compareBytes (l ++ y) r := by
  unfold ordL at h
  split at h
  · omega
  · rename_i hp; rw [ordL_out hp]; exact h
theorem ordL_nil {l : List UInt8} (h : l ≠ []) : 0 < ordL l [] := by
  unfold ordL
  rw [if_neg (by rw [List.prefix_nil]; exact h)]
  cases l with
  | nil => exact absurd rfl h
  | cons a l => simp [compareBytes]
theorem ordL_first {a b : UInt8} {l r : List UInt8} (h : a.toNat < b.toNat) : ordL (a :: l) (b :: r) < 0 := by
  unfold ordL
  rw [if_neg (by rw [List.cons_prefix_cons]; rintro ⟨rfl, -⟩; omega)]
  exact cb_first h
theorem ordL_first' {a b : UInt8} {l r : List UInt8} (h : b.toNat < a.toNat) : 0 < ordL (a :: l) (b :: r) := by
  unfold ordL
  rw [if_neg (by rw [List.cons_prefix_cons]; rintro ⟨rfl, -⟩; omega)]
  rw [cb_neg]
  have := cb_first (r := r) (s := l) h
  omega
/-- how many children are less -/
def posO : List RX → List UInt8 → Nat
  | [], _ => 0
  | k :: ks, r => if ordL k.lab r < 0 then posO ks r + 1 else 0
def isO (ks : List RX) (r : List UInt8) : Bool := decide (posO ks r < ks.length ∧ ordL (rat ks (posO ks r)).lab r = 0)
theorem posO_le (ks : List RX) (r : List UInt8) : posO ks r ≤ ks.length := by
  induction ks with
  | nil => simp [posO]
  | cons k ks ih => simp only [posO]; split <;> simp <;> omega
theorem posO_lt (ks : List RX) (r : List UInt8) (j : Nat) (h : j < posO ks r) : ordL (rat ks j).lab r < 0 := by
  induction ks generalizing j with
  | nil => simp [posO] at h
  | cons k ks ih =>
    simp only [posO] at h
    split at h
    · cases j with
      | zero => simpa [rat]
      | succ j => simpa [rat] using ih j (by omega)
    · omega
theorem posO_not (ks : List RX) (r : List UInt8) (h : posO ks r < ks.length) : ¬ ordL (rat ks (posO ks r)).lab r < 0 := by
  induction ks with
  | nil => simp at h
  | cons k ks ih =>
    simp only [posO] at h ⊢
    split
    · rename_i hlt
      rw [if_pos hlt] at h
      simpa [rat] using ih (by simpa using h)
    · rename_i hlt; simpa [rat] using hlt
section
variable {ks : List RX} {r : List UInt8}
/-- behind that place all are greater -/
theorem posO_gt (hr : ks.Pairwise (fun a b => fst? a < fst? b)) (hl : ∀ k ∈ ks, k.lab ≠ []) (j : Nat) (h : posO ks r < j) (hj : j < ks.length) : 0 < ordL (rat ks j).lab r := by
  have h0 := posO_not ks r (by omega)
  have hp : posO ks r < ks.length := by omega
  have g1 := rat_get hp
  have g2 := rat_get hj
  have hlt : fst? (rat ks (posO ks r)) < fst? (rat ks j) := by
    rw [List.getElem?_eq_some_iff] at g1 g2
    obtain ⟨i1, e1⟩ := g1
    obtain ⟨i2, e2⟩ := g2
    have := List.pairwise_iff_getElem.1 hr _ _ i1 i2 h
    rw [e1, e2] at this
    exact this
  have l1 := hl _ (List.mem_of_getElem? g1)
  have l2 := hl _ (List.mem_of_getElem? g2)
  generalize rat ks (posO ks r) = k at *
  generalize rat ks j = k' at *
  cases r with
  | nil => exact ordL_nil l2
  | cons b s =>
    cases hk : k.lab with
    | nil => exact absurd hk l1
    | cons a u =>
      cases hk' : k'.lab with
      | nil => exact absurd hk' l2
      | cons a' u' =>
        rw [fst_cons hk, fst_cons hk'] at hlt
        rw [hk] at h0
        refine ordL_first' ?_
        rcases Nat.lt_or_ge a.toNat b.toNat with h | h
        · exact absurd (ordL_first h) h0
        · omega
theorem posO_ge (hr : ks.Pairwise (fun a b => fst? a < fst? b)) (hl : ∀ k ∈ ks, k.lab ≠ []) (j : Nat) (h : posO ks r ≤ j) (hj : j < ks.length) : ¬ ordL (rat ks j).lab r < 0 := by
  rcases Nat.lt_or_eq_of_le h with h | h
  · have := posO_gt hr hl j h hj; omega
  · rw [← h]; exact posO_not ks r (by omega)
end
/-- the entries ahead of a key, behind it, those that begin it -/
def ltE (r : List UInt8) (e : Ent) : Bool := decide (compareBytes e.1 r < 0)
def gtE (r : List UInt8) (e : Ent) : Bool := decide (0 < compareBytes e.1 r)
def pfE (r : List UInt8) (e : Ent) : Bool := decide (e.1 <+: r)
/-- behind a label -/
def preE (l : List UInt8) (e : Ent) : Ent := (l ++ e.1, e.2)
theorem bodyL_append (xs ys : List RX) : bodyL (xs ++ ys) = bodyL xs ++ bodyL ys := by
  induction xs with
  | nil => simp [bodyL]
  | cons k xs ih => simp [bodyL, ih]
theorem bodyL_cons (k : RX) (ks : List RX) : bodyL (k :: ks) = (body k).map (preE k.lab) ++ bodyL ks := by rw [bodyL]; rfl
theorem flt_all {α : Type} {p : α → Bool} {l : List α} (h : ∀ x ∈ l, p x = true) : l.filter p = l := List.filter_eq_self.2 h
theorem flt_none {α : Type} {p : α → Bool} {l : List α} (h : ∀ x ∈ l, p x = false) : l.filter p = [] := List.filter_eq_nil_iff.2 fun x hx => by rw [h x hx]; simp
section
variable {t : RX} {r : List UInt8}
theorem less_ent (hc : Can t) : ∀ e ∈ bodyL (t.kids.take (posO t.kids r)), compareBytes e.1 r < 0 := fun e he => by
  obtain ⟨k, hk, y, -, h⟩ := bodyL_mem.1 he
  obtain ⟨j, hj, e2⟩ := List.getElem_of_mem hk
  rw [List.length_take] at hj
  have h1 := posO_lt t.kids r j (by omega)
  have g := rat_get (ks := t.kids) (j := j) (by omega)
  rw [List.getElem_take] at e2
  rw [List.getElem?_eq_getElem (by omega)] at g
  rw [← Option.some.inj g, e2] at h1
  rw [h]; exact ordL_lt h1 y
theorem more_ent (hc : Can t) (q : Nat) (hq : posO t.kids r ≤ q) (hf : isO t.kids r = true → posO t.kids r < q) : ∀ e ∈ bodyL (t.kids.drop q), 0 < compareBytes e.1 r := fun e he => by
  obtain ⟨k, hk, y, -, h⟩ := bodyL_mem.1 he
  obtain ⟨j, hj, e2⟩ := List.getElem_of_mem hk
  rw [List.length_drop] at hj
  rw [List.getElem_drop] at e2
  have hl : ∀ k ∈ t.kids, k.lab ≠ [] := fun k hk => (hc.kd k hk).1
  have g := rat_get (ks := t.kids) (j := q + j) (by omega)
  rw [List.getElem?_eq_getElem (by omega)] at g
  have h1 : 0 < ordL (rat t.kids (q + j)).lab r := by
    rcases Nat.lt_or_eq_of_le (show posO t.kids r ≤ q + j by omega) with h | h
    · exact posO_gt hc.rises hl _ h (by omega)
    · have h2 := posO_not t.kids r (by omega)
      have h3 : ¬ ordL (rat t.kids (posO t.kids r)).lab r = 0 := fun h3 => by
        have := hf (by unfold isO; exact decide_eq_true ⟨by omega, h3⟩)
        omega
      rw [← h]
      omega
  rw [← Option.some.inj g, e2] at h1
  rw [h]; exact ordL_gt h1 y
theorem isO_at (h : isO t.kids r = true) : posO t.kids r < t.kids.length ∧ (rat t.kids (posO t.kids r)).lab <+: r := by
  have := of_decide_eq_true h
  exact ⟨this.1, ordL_zero.1 this.2⟩
theorem kids_cut (h : posO t.kids r < t.kids.length) : t.kids = t.kids.take (posO t.kids r) ++ rat t.kids (posO t.kids r) :: t.kids.drop (posO t.kids r + 1) := by
  have g := rat_get h
  rw [List.getElem?_eq_getElem h] at g
  have e := List.drop_eq_getElem_cons h
  rw [Option.some.inj g] at e
  rw [← e, List.take_append_drop]
theorem body_eq (t : RX) : body t = vals t.val ++ bodyL t.kids := by cases t; exact body_node _ _ _
theorem lt_pre (l r : List UInt8) (e : Ent) : ltE (l ++ r) (preE l e) = ltE r e := by unfold ltE preE; rw [cb_pre]
theorem gt_pre (l r : List UInt8) (e : Ent) : gtE (l ++ r) (preE l e) = gtE r e := by unfold gtE preE; rw [cb_pre]
theorem pf_pre (l r : List UInt8) (e : Ent) : pfE (l ++ r) (preE l e) = pfE r e := by unfold pfE preE; exact decide_eq_decide.2 (List.prefix_append_right_inj l)
theorem filter_pre {p q : Ent → Bool} (l : List UInt8) (h : ∀ e, p (preE l e) = q e) (L : List Ent) : (L.map (preE l)).filter p = (L.filter q).map (preE l) := by
  rw [List.filter_map]
  congr 1
  exact List.filter_congr fun e _ => h e
theorem vals_lt (v : Option ByteArray) : (vals v).filter (ltE r) = if r = [] then [] else vals v := by
  cases v with
  | none => simp [vals]
  | some w =>
    cases r with
    | nil => simp [vals, ltE, compareBytes]
    | cons a s => simp [vals, ltE, compareBytes]
theorem vals_gt (v : Option ByteArray) : (vals v).filter (gtE r) = [] := by
  cases v with
  | none => simp [vals]
  | some w => cases r <;> simp [vals, gtE, compareBytes]
theorem vals_pf (v : Option ByteArray) : (vals v).filter (pfE r) = vals v := by
  cases v with
  | none => simp [vals]
  | some w => simp [vals, pfE]
/-- the way goes on -/
theorem lt_go (hc : Can t) {k : RX} {r' : List UInt8} (h : isO t.kids r = true) (hk : k = rat t.kids (posO t.kids r)) (hr : r = k.lab ++ r') :
    (body t).filter (ltE r) = (if r = [] then [] else vals t.val) ++ (bodyL (t.kids.take (posO t.kids r)) ++ ((body k).filter (ltE r')).map (preE k.lab)) := by
  rw [body_eq, List.filter_append, vals_lt]
  congr 1
  have hp := (isO_at h).1
  have e := kids_cut (t := t) (r := r) hp
  rw [← hk] at e
  have m1 := less_ent (t := t) (r := r) hc
  have m2 := more_ent (t := t) (r := r) hc (posO t.kids r + 1) (by omega) (fun _ => by omega)
  generalize t.kids.take (posO t.kids r) = xs at *
  generalize t.kids.drop (posO t.kids r + 1) = ys at *
  rw [e, bodyL_append, bodyL_cons, List.filter_append, List.filter_append, flt_all (p := ltE r) (l := bodyL xs) (fun x hx => decide_eq_true (m1 x hx)), flt_none (p := ltE r) (l := bodyL ys) (fun x hx => decide_eq_false (by have := m2 x hx; omega)), List.append_nil]
  congr 1
  rw [hr]
  exact filter_pre _ (fun e => lt_pre _ _ e) _
theorem lt_stop (hc : Can t) (h : isO t.kids r = false) :
    (body t).filter (ltE r) = (if r = [] then [] else vals t.val) ++ bodyL (t.kids.take (posO t.kids r)) := by
  rw [body_eq, List.filter_append, vals_lt]
  congr 1
  have m1 := less_ent (t := t) (r := r) hc
  have m2 := more_ent (t := t) (r := r) hc (posO t.kids r) (by omega) (fun hh => by rw [h] at hh; cases hh)
  have e : t.kids = t.kids.take (posO t.kids r) ++ t.kids.drop (posO t.kids r) := (List.take_append_drop _ _).symm
  generalize t.kids.take (posO t.kids r) = xs at *
  generalize t.kids.drop (posO t.kids r) = ys at *
  rw [e, bodyL_append, List.filter_append, flt_all (p := ltE r) (l := bodyL xs) (fun x hx => decide_eq_true (m1 x hx)), flt_none (p := ltE r) (l := bodyL ys) (fun x hx => decide_eq_false (by have := m2 x hx; omega)), List.append_nil]
theorem gt_go (hc : Can t) {k : RX} {r' : List UInt8} (h : isO t.kids r = true) (hk : k = rat t.kids (posO t.kids r)) (hr : r = k.lab ++ r') :
    (body t).filter (gtE r) = ((body k).filter (gtE r')).map (preE k.lab) ++ bodyL (t.kids.drop (posO t.kids r + 1)) := by
  rw [body_eq, List.filter_append, vals_gt, List.nil_append]
  have hp := (isO_at h).1
  have e := kids_cut (t := t) (r := r) hp
  rw [← hk] at e
  have m1 := less_ent (t := t) (r := r) hc
  have m2 := more_ent (t := t) (r := r) hc (posO t.kids r + 1) (by omega) (fun _ => by omega)
  generalize t.kids.take (posO t.kids r) = xs at *
  generalize t.kids.drop (posO t.kids r + 1) = ys at *
  rw [e, bodyL_append, bodyL_cons, List.filter_append, List.filter_append, flt_none (p := gtE r) (l := bodyL xs) (fun x hx => decide_eq_false (by have := m1 x hx; omega)), flt_all (p := gtE r) (l := bodyL ys) (fun x hx => decide_eq_true (m2 x hx)), List.nil_append]
  congr 1
  rw [hr]
  exact filter_pre _ (fun e => gt_pre _ _ e) _
theorem gt_stop (hc : Can t) (h : isO t.kids r = false) : (body t).filter (gtE r) = bodyL (t.kids.drop (posO t.kids r)) := by
  rw [body_eq, List.filter_append, vals_gt, List.nil_append]
  have m1 := less_ent (t := t) (r := r) hc
  have m2 := more_ent (t := t) (r := r) hc (posO t.kids r) (by omega) (fun hh => by rw [h] at hh; cases hh)
  have e : t.kids = t.kids.take (posO t.kids r) ++ t.kids.drop (posO t.kids r) := (List.take_append_drop _ _).symm
  generalize t.kids.take (posO t.kids r) = xs at *
  generalize t.kids.drop (posO t.kids r) = ys at *
  rw [e, bodyL_append, List.filter_append, flt_none (p := gtE r) (l := bodyL xs) (fun x hx => decide_eq_false (by have := m1 x hx; omega)), flt_all (p := gtE r) (l := bodyL ys) (fun x hx => decide_eq_true (m2 x hx)), List.nil_append]
theorem cb_pfx : ∀ {l r : List UInt8}, l <+: r → compareBytes l r ≤ 0
  | [], [], _ => by simp [compareBytes]
  | [], _ :: _, _ => by simp [compareBytes]
  | a :: l, [], h => by simp at h
  | a :: l, b :: r, h => by
    rw [List.cons_prefix_cons] at h
    obtain ⟨rfl, h⟩ := h
    have : ¬ a < a := UInt8.lt_irrefl a
    simp only [compareBytes, this, if_false]
    exact cb_pfx h
theorem pf_less (hc : Can t) : ∀ e ∈ bodyL (t.kids.take (posO t.kids r)), ¬ e.1 <+: r := fun e he hp => by
  obtain ⟨k, hk, y, -, h⟩ := bodyL_mem.1 he
  obtain ⟨j, hj, e2⟩ := List.getElem_of_mem hk
  rw [List.length_take] at hj
  have h1 := posO_lt t.kids r j (by omega)
  have g := rat_get (ks := t.kids) (j := j) (by omega)
  rw [List.getElem_take] at e2
  rw [List.getElem?_eq_getElem (by omega)] at g
  rw [← Option.some.inj g, e2] at h1
  rw [h] at hp
  have := ordL_zero.2 ((List.prefix_append _ _).trans hp)
  omega
theorem pf_more (hc : Can t) (q : Nat) (hq : posO t.kids r ≤ q) (hf : isO t.kids r = true → posO t.kids r < q) : ∀ e ∈ bodyL (t.kids.drop q), ¬ e.1 <+: r := fun e he hp => by
  have := more_ent hc q hq hf e he
  have := cb_pfx hp
  omega
theorem pf_go (hc : Can t) {k : RX} {r' : List UInt8} (h : isO t.kids r = true) (hk : k = rat t.kids (posO t.kids r)) (hr : r = k.lab ++ r') :
    (body t).filter (pfE r) = vals t.val ++ ((body k).filter (pfE r')).map (preE k.lab) := by
  rw [body_eq, List.filter_append, vals_pf]
  congr 1
  have hp := (isO_at h).1
  have e := kids_cut (t := t) (r := r) hp
  rw [← hk] at e
  have m1 := pf_less (t := t) (r := r) hc
  have m2 := pf_more (t := t) (r := r) hc (posO t.kids r + 1) (by omega) (fun _ => by omega)
  generalize t.kids.take (posO t.kids r) = xs at *
  generalize t.kids.drop (posO t.kids r + 1) = ys at *
  rw [e, bodyL_append, bodyL_cons, List.filter_append, List.filter_append, flt_none (p := pfE r) (l := bodyL xs) (fun x hx => decide_eq_false (m1 x hx)), flt_none (p := pfE r) (l := bodyL ys) (fun x hx => decide_eq_false (m2 x hx)), List.append_nil, List.nil_append]
  rw [hr]
  exact filter_pre _ (fun e => pf_pre _ _ e) _
theorem pf_stop (hc : Can t) (h : isO t.kids r = false) : (body t).filter (pfE r) = vals t.val := by
  rw [body_eq, List.filter_append, vals_pf]
  have m1 := pf_less (t := t) (r := r) hc
  have m2 := pf_more (t := t) (r := r) hc (posO t.kids r) (by omega) (fun hh => by rw [h] at hh; cases hh)
  have e : t.kids = t.kids.take (posO t.kids r) ++ t.kids.drop (posO t.kids r) := (List.take_append_drop _ _).symm
  generalize t.kids.take (posO t.kids r) = xs at *
  generalize t.kids.drop (posO t.kids r) = ys at *
  rw [e, bodyL_append, List.filter_append, flt_none (p := pfE r) (l := bodyL xs) (fun x hx => decide_eq_false (m1 x hx)), flt_none (p := pfE r) (l := bodyL ys) (fun x hx => decide_eq_false (m2 x hx)), List.append_nil, List.append_nil]
end
/-- a stop on the way down: the node, its own key, what follows -/
structure St where
  t : RX
  pre : List UInt8
  r : List UInt8
/-- the way down -/
inductive WayS : RX → List UInt8 → List UInt8 → List St → Prop
  | stop {t : RX} {pre r : List UInt8} : isO t.kids r = false → WayS t pre r [⟨t, pre, r⟩]
  | go {t k : RX} {pre r r' : List UInt8} {S : List St} : isO t.kids r = true → k = rat t.kids (posO t.kids r) → r = k.lab ++ r' → WayS k (pre ++ k.lab) r' S → WayS t pre r (⟨t, pre, r⟩ :: S)
def lessS (s : St) : List RX := s.t.kids.take (posO s.t.kids s.r)
def moreS (s : St) : List RX := s.t.kids.drop (if isO s.t.kids s.r then posO s.t.kids s.r + 1 else posO s.t.kids s.r)
def ownB (s : St) : Option Ent := (((if s.r = [] then [] else vals s.t.val) ++ bodyL (lessS s)).getLast?).map (preE s.pre)
def ownA (s : St) : Option Ent := ((bodyL (moreS s)).head?).map (preE s.pre)
def ownL (s : St) : Option Ent := ((vals s.t.val).getLast?).map (preE s.pre)
theorem pre_pre (a b : List UInt8) (o : Option Ent) : (o.map (preE b)).map (preE a) = o.map (preE (a ++ b)) := by
  cases o <;> simp [preE]
theorem last_app {α : Type} (a b : List α) : (a ++ b).getLast? = b.getLast?.or a.getLast? := by
  rw [List.getLast?_append]
theorem head_app {α : Type} (a b : List α) : (a ++ b).head? = a.head?.or b.head? := by
  rw [List.head?_append]
theorem last_map {α β : Type} (f : α → β) (l : List α) : (l.map f).getLast? = l.getLast?.map f := by rw [List.getLast?_map]
theorem or_map {α β : Type} (f : α → β) (a b : Option α) : (a.or b).map f = (a.map f).or (b.map f) := by cases a <;> rfl
theorem below_way {t : RX} {pre r : List UInt8} {S : List St} (h : WayS t pre r S) (hc : Can t) : S.reverse.findSome? ownB = (((body t).filter (ltE r)).getLast?).map (preE pre) := by
  induction h with
  | stop h => simp [ownB, lessS, lt_stop hc h]
  | @go t k pre r r' S h hk hr hS ih =>
    have hck : Can k := by
      rw [hk]; exact hc.kids _ (List.mem_of_getElem? (rat_get (isO_at h).1))
    rw [List.reverse_cons, List.findSome?_append, ih hck, lt_go hc h hk hr, ← List.append_assoc, last_app, last_map, or_map, pre_pre]
    congr 1
    simp [ownB, lessS]
theorem above_way {t : RX} {pre r : List UInt8} {S : List St} (h : WayS t pre r S) (hc : Can t) : S.reverse.findSome? ownA = (((body t).filter (gtE r)).head?).map (preE pre) := by
  induction h with
  | stop h => simp [ownA, moreS, gt_stop hc h, h]
  | @go t k pre r r' S h hk hr hS ih =>
    have hck : Can k := by
      rw [hk]; exact hc.kids _ (List.mem_of_getElem? (rat_get (isO_at h).1))
    rw [List.reverse_cons, List.findSome?_append, ih hck, gt_go hc h hk hr, head_app, List.head?_map, or_map, pre_pre]
    congr 1
    simp [ownA, moreS, h]
theorem longest_way {t : RX} {pre r : List UInt8} {S : List St} (h : WayS t pre r S) (hc : Can t) : S.reverse.findSome? ownL = (((body t).filter (pfE r)).getLast?).map (preE pre) := by
  induction h with
  | stop h => simp [ownL, pf_stop hc h]
  | @go t k pre r r' S h hk hr hS ih =>
    have hck : Can k := by
      rw [hk]; exact hc.kids _ (List.mem_of_getElem? (rat_get (isO_at h).1))
    rw [List.reverse_cons, List.findSome?_append, ih hck, pf_go hc h hk hr, last_app, last_map, or_map, pre_pre]
    congr 1
    simp [ownL]
/-- how many are less -/
def ownN (s : St) : Nat := ((if s.r = [] then [] else vals s.t.val) ++ bodyL (lessS s)).length
theorem rank_way {t : RX} {pre r : List UInt8} {S : List St} (h : WayS t pre r S) (hc : Can t) : (S.map ownN).sum = ((body t).filter (ltE r)).length := by
  induction h with
  | stop h => simp [ownN, lessS, lt_stop hc h]
  | @go t k pre r r' S h hk hr hS ih =>
    have hck : Can k := by
      rw [hk]; exact hc.kids _ (List.mem_of_getElem? (rat_get (isO_at h).1))
    rw [List.map_cons, List.sum_cons, ih hck, lt_go hc h hk hr]
    simp [ownN, lessS]
    omega
end Go.Proofs.Ytimhdegdmdilaaa
/- Stops in memory: rows of trees as parts of rows of pointers. -/
namespace Go.Proofs.Ytimhdegdmdilaaa
open Go.RowKit Go.Lib
set_option linter.unusedVariables false
set_option maxRecDepth 100000
set_option linter.unnecessarySimpa false
set_option linter.unusedSimpArgs false
set_option linter.unnecessarySimpa false
set_option maxRecDepth 100000
abbrev RadT (w : World) (b : Nat) (t : RX) : Prop := RadW (fun _ => True) w b t
/-- the kinds of a tree's blocks -/
theorem RadW.ty2 {P : Nat → Prop} {w : World} {b : Nat} {t : RX} (h : RadW P w b t) : RadW (fun x => ∃ ty cs, Blk w x ty cs ∧ (ty = 132 ∨ ty = 24)) w b t := by
  refine RadW.ind_ (Q := fun b t => RadW (fun x => ∃ ty cs, Blk w x ty cs ∧ (ty = 132 ∨ ty = 24)) w b t) (fun b t kv bs h1 h2 h3 h4 ih => ?_) h
  refine .mk h1 ?_ (fun g hg => ?_) ih
  · obtain ⟨o, lab, val, sh, hB', -⟩ := h1.blk
    exact ⟨_, _, hB', .inl rfl⟩
  · obtain ⟨cur, hc⟩ := own_cells h1.row g hg
    exact ⟨_, _, hc, .inr rfl⟩
/-- blocks of other kinds are written: a tree stands -/
theorem RadW.kept {w w' : World} {b : Nat} {t : RX} {X : List Nat} (h : RadT w b t) (hk : Keep X w w') (hX : ∀ x ∈ X, ∀ ty cs, Blk w x ty cs → ty ≠ 132 ∧ ty ≠ 24) : RadT w' b t := by
  refine (h.ty2.keep hk fun x hx hm => ?_).mono fun _ _ _ => trivial
  obtain ⟨ty, cs, hB, e⟩ := hx
  have := hX x hm ty cs hB
  rcases e with e | e
  · exact this.1 e
  · exact this.2 e
/-- a row of trees, as a part of a row of pointers -/
def SlK (w : World) (v : Value) (ks : List RX) : Prop :=
  (v = .slice none 0 0 ∧ ks = []) ∨ ∃ (g lo c : Nat) (bs : List Nat) (cs : Array Value), v = .slice (some ⟨g, lo, none⟩) ks.length c ∧ Blk w g 24 cs ∧ bs.length = ks.length ∧ (∀ i b : Nat, bs[i]? = some b → cs[lo + i]? = some (at0 b)) ∧ ∀ (i b : Nat) (k : RX), bs[i]? = some b → ks[i]? = some k → RadT w b k
theorem SlK.below {w w' : World} {v : Value} {ks : List RX} (h : SlK w v ks) (hb : Below w.heap.size w w') : SlK w' v ks := by
  rcases h with h | ⟨g, lo, c, bs, cs, h1, h2, h3, h4, h5⟩
  · exact .inl h
  · exact .inr ⟨g, lo, c, bs, cs, h1, h2.below hb, h3, h4, fun i b k hb1 hk => (h5 i b k hb1 hk).stay hb⟩
theorem SlK.kept {w w' : World} {v : Value} {ks : List RX} {X : List Nat} (h : SlK w v ks) (hk : Keep X w w') (hX : ∀ x ∈ X, ∀ ty cs, Blk w x ty cs → ty ≠ 132 ∧ ty ≠ 24) : SlK w' v ks := by
  rcases h with h | ⟨g, lo, c, bs, cs, h1, h2, h3, h4, h5⟩
  · exact .inl h
  · refine .inr ⟨g, lo, c, bs, cs, h1, h2.keep hk fun hm => ?_, h3, h4, fun i b k hb1 hk1 => (h5 i b k hb1 hk1).kept hk hX⟩
    exact (hX g hm _ _ h2).2 rfl
/-- the tree at a place -/
theorem SlK.at {w : World} {v : Value} {ks : List RX} (h : SlK w v ks) (j : Nat) (hj : j < ks.length) : ∃ (g lo c b : Nat), v = .slice (some ⟨g, lo, none⟩) ks.length c ∧ w.cell? ⟨g, lo + j, none⟩ = some (at0 b) ∧ RadT w b (rat ks j) := by
  rcases h with ⟨_, h⟩ | ⟨g, lo, c, bs, cs, h1, h2, h3, h4, h5⟩
  · rw [h] at hj; simp at hj
  · have hb : bs[j]? = some bs[j] := List.getElem?_eq_getElem (by omega)
    exact ⟨g, lo, c, bs[j], h1, (h2.cell (lo + j)).trans (h4 j _ hb), h5 j _ _ hb (rat_get hj)⟩
/-- a stop in memory -/
structure StC where
  s : St
  b : Nat
  key : ByteArray
  vl : Value
  vm : Value
def StC.cells (c : StC) : List Value := [at0 c.b, .string c.key, c.vl, c.vm]
structure StOK (w : World) (c : StC) : Prop where
  key : c.key.data.toList = c.s.pre
  rad : RadT w c.b c.s.t
  can : Can c.s.t
  less : SlK w c.vl (lessS c.s)
  more : SlK w c.vm (moreS c.s)
theorem StOK.below {w w' : World} {c : StC} (h : StOK w c) (hb : Below w.heap.size w w') : StOK w' c := ⟨h.key, h.rad.stay hb, h.can, h.less.below hb, h.more.below hb⟩
theorem StOK.kept {w w' : World} {c : StC} {X : List Nat} (h : StOK w c) (hk : Keep X w w') (hX : ∀ x ∈ X, ∀ ty cs, Blk w x ty cs → ty ≠ 132 ∧ ty ≠ 24) : StOK w' c := ⟨h.key, h.rad.kept hk hX, h.can, h.less.kept hk hX, h.more.kept hk hX⟩
end Go.Proofs.Ytimhdegdmdilaaa
