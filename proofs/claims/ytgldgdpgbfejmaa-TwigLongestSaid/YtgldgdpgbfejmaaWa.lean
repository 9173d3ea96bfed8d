/- Beginnings of strings, and their order: plain lists of bytes. -/
import Derived.Lib.Bytealg
import Derived.Laws.Externs
namespace Go.Proofs.Ytgldgdpgbfejmaa
open Go.Lib
set_option linter.unusedVariables false
set_option linter.unusedSimpArgs false

/-- how far two go together -/
def cmn : List UInt8 → List UInt8 → Nat
  | a :: as, b :: bs => if a = b then cmn as bs + 1 else 0
  | _, _ => 0
theorem cmn_le (a b : List UInt8) : cmn a b ≤ a.length ∧ cmn a b ≤ b.length := by
  induction a generalizing b with
  | nil => simp [cmn]
  | cons x a ih =>
    cases b with
    | nil => simp [cmn]
    | cons y b =>
      simp only [cmn]
      split
      · have := ih b; simp; omega
      · simp
theorem cmn_comm (a b : List UInt8) : cmn a b = cmn b a := by
  induction a generalizing b with
  | nil => cases b <;> simp [cmn]
  | cons x a ih =>
    cases b with
    | nil => simp [cmn]
    | cons y b =>
      simp only [cmn]
      by_cases h : x = y
      · subst h; simp [ih b]
      · simp [h, Ne.symm h]
theorem cmn_at (a b : List UInt8) (i : Nat) (h : a.take i = b.take i) (ha : i ≤ a.length) (hb : i ≤ b.length) : cmn a b = i + cmn (a.drop i) (b.drop i) := by
  induction i generalizing a b with
  | zero => simp
  | succ i ih =>
    cases a with
    | nil => simp at ha
    | cons x a =>
      cases b with
      | nil => simp at hb
      | cons y b =>
        simp only [List.take_succ_cons, List.cons.injEq] at h
        simp only [List.length_cons] at ha hb
        have := ih a b h.2 (by omega) (by omega)
        simp only [cmn, h.1, if_true, List.drop_succ_cons]
        omega
theorem cmn_take (a b : List UInt8) : a.take (cmn a b) = b.take (cmn a b) := by
  induction a generalizing b with
  | nil => simp [cmn]
  | cons x a ih =>
    cases b with
    | nil => simp [cmn]
    | cons y b =>
      simp only [cmn]
      by_cases h : x = y
      · subst h; simp [ih b]
      · simp [h]
theorem cmn_end {a b : List UInt8} {i : Nat} (h : a.take i = b.take i) (ha : i ≤ a.length) (hb : i ≤ b.length) (he : i = a.length ∨ i = b.length) : cmn a b = i := by
  rw [cmn_at a b i h ha hb]
  rcases he with e | e
  · rw [List.drop_of_length_le (l := a) (by omega)]; simp [cmn]
  · rw [List.drop_of_length_le (l := b) (by omega), cmn_comm]; simp [cmn]
theorem cmn_diff {a b : List UInt8} {i : Nat} (h : a.take i = b.take i) (ha : i < a.length) (hb : i < b.length) (he : a[i] ≠ b[i]) : cmn a b = i := by
  rw [cmn_at a b i h (by omega) (by omega), List.drop_eq_getElem_cons ha, List.drop_eq_getElem_cons hb]
  simp [cmn, he]
theorem cmn_begins (a b : List UInt8) : cmn a b = b.length ↔ b <+: a := by
  constructor
  · intro h
    have := cmn_take a b
    rw [h, List.take_length] at this
    exact ⟨a.drop b.length, by conv => lhs; arg 1; rw [← this]
                               exact List.take_append_drop _ _⟩
  · rintro ⟨t, rfl⟩
    exact cmn_end (by simp) (by simp) (Nat.le_refl _) (.inr rfl)
/-- what is above all that begin so, of a list turned round -/
def abr : List UInt8 → Option (List UInt8)
  | [] => none
  | c :: r => if c = 255 then abr r else some ((c + 1) :: r)
/-- what is above all that begin so -/
def abv (l : List UInt8) : Option (List UInt8) := (abr l.reverse).map List.reverse
theorem abv_nil : abv [] = none := rfl
theorem abv_snoc (l : List UInt8) (c : UInt8) : abv (l ++ [c]) = if c = 255 then abv l else some (l ++ [c + 1]) := by
  unfold abv
  rw [List.reverse_append]
  simp only [List.reverse_cons, List.reverse_nil, List.nil_append, List.singleton_append, abr]
  split
  · rfl
  · simp
theorem abr_none {r : List UInt8} (h : abr r = none) : ∀ c ∈ r, c = 255 := by
  induction r with
  | nil => simp
  | cons c r ih =>
    simp only [abr] at h
    split at h
    · rename_i e
      intro x hx
      rcases List.mem_cons.1 hx with rfl | hx
      · exact e
      · exact ih h x hx
    · cases h
theorem abv_none {l : List UInt8} (h : abv l = none) : ∀ c ∈ l, c = 255 := by
  unfold abv at h
  simp only [Option.map_eq_none_iff] at h
  intro c hc
  exact abr_none h c (by simpa using hc)
theorem abr_some {r u : List UInt8} (h : abr r = some u) : ∃ (k : Nat) (c : UInt8) (t : List UInt8), c ≠ 255 ∧ r = List.replicate k 255 ++ c :: t ∧ u = (c + 1) :: t := by
  induction r with
  | nil => cases h
  | cons c r ih =>
    simp only [abr] at h
    split at h
    · rename_i e
      obtain ⟨k, d, t, hd, hr, hu⟩ := ih h
      exact ⟨k + 1, d, t, hd, by rw [hr, e]; rfl, hu⟩
    · rename_i e
      obtain rfl := Option.some.inj h
      exact ⟨0, c, r, e, rfl, rfl⟩
theorem abv_some {l u : List UInt8} (h : abv l = some u) : ∃ (p : List UInt8) (c : UInt8) (k : Nat), c ≠ 255 ∧ l = p ++ c :: List.replicate k 255 ∧ u = p ++ [c + 1] := by
  unfold abv at h
  obtain ⟨v, hv, rfl⟩ := Option.map_eq_some_iff.1 h
  obtain ⟨k, c, t, hc, hr, rfl⟩ := abr_some hv
  refine ⟨t.reverse, c, k, hc, ?_, by simp⟩
  have := congrArg List.reverse hr
  simpa using this

/-- which of two is less -/
def lt (a b : List UInt8) : Prop := compareBytes a b < 0
theorem cb_app (p u v : List UInt8) : compareBytes (p ++ u) (p ++ v) = compareBytes u v := by
  induction p with
  | nil => rfl
  | cons x p ih =>
    have : ¬ x < x := UInt8.lt_irrefl x
    simp [compareBytes, this, ih]
theorem cb_at {a b : List UInt8} {i : Nat} (h : a.take i = b.take i) : compareBytes a b = compareBytes (a.drop i) (b.drop i) := by
  have := cb_app (a.take i) (a.drop i) (b.drop i)
  rw [List.take_append_drop, h, List.take_append_drop] at this
  exact this
theorem lt_cons (x y : UInt8) (a b : List UInt8) : lt (x :: a) (y :: b) ↔ x < y ∨ x = y ∧ lt a b := by
  unfold lt
  simp only [compareBytes]
  by_cases h1 : x < y
  · simp [h1]
  · by_cases h2 : y < x
    · have : x ≠ y := fun e => UInt8.ne_of_lt h2 e.symm
      simp [h1, h2, this]
    · have : x = y := UInt8.le_antisymm (UInt8.not_lt.1 h2) (UInt8.not_lt.1 h1)
      simp [h1, h2, this]
theorem lt_nil (a : List UInt8) : ¬ lt a [] := by
  unfold lt
  cases a <;> simp [compareBytes]
theorem nil_lt (y : UInt8) (b : List UInt8) : lt [] (y :: b) := by
  unfold lt
  simp [compareBytes]
theorem lt_app (p a b : List UInt8) : lt (p ++ a) (p ++ b) ↔ lt a b := by
  unfold lt
  rw [cb_app]
theorem lt_irrefl (a : List UInt8) : ¬ lt a a := by
  induction a with
  | nil => exact lt_nil _
  | cons x a ih =>
    rw [lt_cons]
    rintro (h | ⟨_, h⟩)
    · exact UInt8.lt_irrefl x h
    · exact ih h
theorem lt_trans {a b c : List UInt8} (h1 : lt a b) (h2 : lt b c) : lt a c := by
  induction a generalizing b c with
  | nil =>
    cases c with
    | nil => exact absurd h2 (lt_nil _)
    | cons z c => exact nil_lt _ _
  | cons x a ih =>
    cases b with
    | nil => exact absurd h1 (lt_nil _)
    | cons y b =>
      cases c with
      | nil => exact absurd h2 (lt_nil _)
      | cons z c =>
        rw [lt_cons] at *
        rcases h1 with h1 | ⟨rfl, h1⟩
        · rcases h2 with h2 | ⟨rfl, h2⟩
          · exact .inl (UInt8.lt_trans h1 h2)
          · exact .inl h1
        · rcases h2 with h2 | ⟨rfl, h2⟩
          · exact .inl h2
          · exact .inr ⟨rfl, ih h1 h2⟩
theorem lt_asymm {a b : List UInt8} (h1 : lt a b) (h2 : lt b a) : False := lt_irrefl a (lt_trans h1 h2)
theorem lt_total (a b : List UInt8) : lt a b ∨ a = b ∨ lt b a := by
  induction a generalizing b with
  | nil =>
    cases b with
    | nil => exact .inr (.inl rfl)
    | cons y b => exact .inl (nil_lt _ _)
  | cons x a ih =>
    cases b with
    | nil => exact .inr (.inr (nil_lt _ _))
    | cons y b =>
      rw [lt_cons, lt_cons]
      by_cases h1 : x < y
      · exact .inl (.inl h1)
      · by_cases h2 : y < x
        · exact .inr (.inr (.inl h2))
        · have : x = y := UInt8.le_antisymm (UInt8.not_lt.1 h2) (UInt8.not_lt.1 h1)
          subst this
          rcases ih b with h | h | h
          · exact .inl (.inr ⟨rfl, h⟩)
          · exact .inr (.inl (by rw [h]))
          · exact .inr (.inr (.inr ⟨rfl, h⟩))
theorem not_lt_trans {a b c : List UInt8} (h1 : ¬ lt b a) (h2 : lt b c) : lt a c := by
  rcases lt_total a b with h | h | h
  · exact lt_trans h h2
  · exact h ▸ h2
  · exact absurd h h1
/-- a beginning is not greater -/
theorem begins_le {s o : List UInt8} (h : s <+: o) : ¬ lt o s := by
  obtain ⟨t, rfl⟩ := h
  intro h
  have := (lt_app s t []).1 (by simpa using h)
  exact lt_nil _ this
/-- of bytes that are all the greatest all others are less, or begin so -/
theorem all_ff (s o : List UInt8) (h : ∀ c ∈ s, c = 255) : lt o s ∨ s <+: o := by
  induction s generalizing o with
  | nil => exact .inr (List.nil_prefix)
  | cons c s ih =>
    obtain rfl := h c (by simp)
    cases o with
    | nil => exact .inl (nil_lt _ _)
    | cons x o =>
      rw [lt_cons]
      by_cases hx : x = 255
      · subst hx
        rcases ih o (fun c hc => h c (by simp [hc])) with h | h
        · exact .inl (.inr ⟨rfl, h⟩)
        · exact .inr (by simpa using h)
      · refine .inl (.inl ?_)
        rw [UInt8.lt_iff_toNat_lt]
        have h1 := x.toNat_lt
        have h2 : x.toNat ≠ 255 := fun e => hx (UInt8.toNat_inj.1 (by simpa using e))
        show x.toNat < 255
        omega
theorem lt_succ (x c : UInt8) (hc : c ≠ 255) : x < c + 1 ↔ x < c ∨ x = c := by
  have h1 := c.toNat_lt
  have h2 : c.toNat ≠ 255 := fun e => hc (UInt8.toNat_inj.1 (by simpa using e))
  have h3 : (c + 1).toNat = c.toNat + 1 := by
    rw [UInt8.toNat_add]
    show (c.toNat + 1) % 256 = _
    omega
  rw [UInt8.lt_iff_toNat_lt, UInt8.lt_iff_toNat_lt, h3, ← UInt8.toNat_inj]
  omega
theorem above_iff (p : List UInt8) (c : UInt8) (k : Nat) (hc : c ≠ 255) (o : List UInt8) : lt o (p ++ [c + 1]) ↔ lt o (p ++ c :: List.replicate k 255) ∨ (p ++ c :: List.replicate k 255) <+: o := by
  induction p generalizing o with
  | nil =>
    simp only [List.nil_append]
    cases o with
    | nil => simp [nil_lt]
    | cons x o =>
      rw [lt_cons, lt_cons, lt_succ _ _ hc]
      have hn : ¬ lt o [] := lt_nil _
      constructor
      · rintro ((h | rfl) | ⟨_, h⟩)
        · exact .inl (.inl h)
        · rcases all_ff (List.replicate k 255) o (by simp) with h | h
          · exact .inl (.inr ⟨rfl, h⟩)
          · exact .inr (by simpa using h)
        · exact absurd h hn
      · rintro ((h | ⟨rfl, h⟩) | h)
        · exact .inl (.inl h)
        · exact .inl (.inr rfl)
        · simp only [List.cons_prefix_cons] at h
          exact .inl (.inr h.1.symm)
  | cons y p ih =>
    simp only [List.cons_append]
    cases o with
    | nil => simp [nil_lt]
    | cons x o =>
      rw [lt_cons, lt_cons, ih o]
      simp only [List.cons_prefix_cons]
      constructor
      · rintro (h | ⟨rfl, h | h⟩)
        · exact .inl (.inl h)
        · exact .inl (.inr ⟨rfl, h⟩)
        · exact .inr ⟨rfl, h⟩
      · rintro ((h | ⟨rfl, h⟩) | ⟨rfl, h⟩)
        · exact .inl h
        · exact .inr ⟨rfl, .inl h⟩
        · exact .inr ⟨rfl, .inr h⟩
theorem abv_iff {s u : List UInt8} (h : abv s = some u) (o : List UInt8) : lt o u ↔ lt o s ∨ s <+: o := by
  obtain ⟨p, c, k, hc, rfl, rfl⟩ := abv_some h
  exact above_iff p c k hc o
theorem abv_no {s : List UInt8} (h : abv s = none) (o : List UInt8) : lt o s ∨ s <+: o := all_ff s o (abv_none h)
/-- just what begins so lies between -/
theorem abv_between {s u : List UInt8} (h : abv s = some u) (o : List UInt8) : s <+: o ↔ (¬ lt o s ∧ lt o u) := by
  rw [abv_iff h]
  constructor
  · intro h; exact ⟨begins_le h, .inr h⟩
  · rintro ⟨h1, h2 | h2⟩
    · exact absurd h2 h1
    · exact h2
theorem abv_far {s t u f : List UInt8} (h : abv s = some u) (h2 : abv (s ++ t) = some f) : ¬ lt u f := by
  rw [abv_iff h2]
  have hs : s <+: s ++ t := List.prefix_append s t
  have h3 : lt (s ++ t) u := (abv_iff h _).2 (.inr hs)
  rintro (h4 | h4)
  · exact lt_asymm h3 h4
  · exact lt_irrefl u ((abv_iff h u).2 (.inr (hs.trans h4)))
theorem cmn_rest (a b : List UInt8) : cmn (a.drop (cmn a b)) (b.drop (cmn a b)) = 0 := by
  have h := cmn_le a b
  have := cmn_at a b (cmn a b) (cmn_take a b) h.1 h.2
  omega
theorem lt_rest (a b : List UInt8) : lt a b ↔ lt (a.drop (cmn a b)) (b.drop (cmn a b)) := by
  unfold lt
  rw [cb_at (cmn_take a b)]
theorem cmn_app (a t : List UInt8) : cmn (a ++ t) a = a.length := (cmn_begins _ _).2 (List.prefix_append a t)
end Go.Proofs.Ytgldgdpgbfejmaa
