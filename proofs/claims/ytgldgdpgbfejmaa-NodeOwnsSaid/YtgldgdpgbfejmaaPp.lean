/- Keys are in one order; sorted stretches of a list, and lists that have the pairs of each key in the same order. -/
import Derived.Test.YtgldgdpgbfejmaaPa
namespace Go.Proofs.Ytgldgdpgbfejmaa
open Go.Lib
set_option linter.unusedVariables false
set_option linter.unusedSimpArgs false

theorem cb_neg (a b : List UInt8) : compareBytes b a = - compareBytes a b := by
  induction a generalizing b with
  | nil => cases b <;> simp [compareBytes]
  | cons x a ih =>
    cases b with
    | nil => simp [compareBytes]
    | cons y b =>
      simp only [compareBytes]
      by_cases h1 : x < y
      · have h2 : ¬ y < x := fun h => absurd (UInt8.lt_trans h1 h) (UInt8.lt_irrefl x)
        simp [h1, h2]
      · by_cases h2 : y < x
        · simp [h1, h2]
        · simp [h1, h2, ih]
theorem cb_zero (a b : List UInt8) : compareBytes a b = 0 ↔ a = b := by
  induction a generalizing b with
  | nil => cases b <;> simp [compareBytes]
  | cons x a ih =>
    cases b with
    | nil => simp [compareBytes]
    | cons y b =>
      simp only [compareBytes]
      by_cases h1 : x < y
      · have : x ≠ y := UInt8.ne_of_lt h1
        simp [h1, this]
      · by_cases h2 : y < x
        · have : x ≠ y := fun e => UInt8.ne_of_lt h2 e.symm
          simp [h1, h2, this]
        · have : x = y := UInt8.le_antisymm (UInt8.not_lt.1 h2) (UInt8.not_lt.1 h1)
          simp [h1, h2, ih, this]
theorem cb_trans (a b c : List UInt8) (h1 : compareBytes a b < 0) (h2 : compareBytes b c < 0) : compareBytes a c < 0 := by
  induction a generalizing b c with
  | nil =>
    cases b with
    | nil => simp [compareBytes] at h1
    | cons y b =>
      cases c with
      | nil => simp [compareBytes] at h2
      | cons z c => simp [compareBytes]
  | cons x a ih =>
    cases b with
    | nil => simp [compareBytes] at h1
    | cons y b =>
      cases c with
      | nil => simp [compareBytes] at h2
      | cons z c =>
        simp only [compareBytes] at h1 h2 ⊢
        by_cases hxy : x < y
        · by_cases hyz : y < z
          · simp [UInt8.lt_trans hxy hyz]
          · by_cases hzy : z < y
            · simp [hyz, hzy] at h2
            · have e : y = z := UInt8.le_antisymm (UInt8.not_lt.1 hzy) (UInt8.not_lt.1 hyz)
              subst e
              simp [hxy]
        · by_cases hyx : y < x
          · simp [hxy, hyx] at h1
          · have e : x = y := UInt8.le_antisymm (UInt8.not_lt.1 hyx) (UInt8.not_lt.1 hxy)
            subst e
            simp only [hxy, if_false] at h1
            by_cases hyz : x < z
            · simp [hyz]
            · by_cases hzy : z < x
              · simp [hyz, hzy] at h2
              · simp only [hyz, hzy, if_false] at h2 ⊢
                exact ih b c h1 h2
theorem bytes_ext {a b : ByteArray} (h : a.data.toList = b.data.toList) : a = b := by
  obtain ⟨a⟩ := a
  obtain ⟨b⟩ := b
  simp at h
  rw [h]
theorem cmpS_neg (a b : ByteArray) : cmpS b a = - cmpS a b := cb_neg _ _
theorem cmpS_zero (a b : ByteArray) : cmpS a b = 0 ↔ a = b := ⟨fun h => bytes_ext ((cb_zero _ _).1 h), fun h => h ▸ (cb_zero _ _).2 rfl⟩
/-- less -/
def Lt (a b : ByteArray) : Prop := cmpS a b < 0
/-- not greater -/
def Le (a b : ByteArray) : Prop := 0 ≤ cmpS b a
theorem Lt.trans {a b c : ByteArray} (h1 : Lt a b) (h2 : Lt b c) : Lt a c := cb_trans _ _ _ h1 h2
theorem Lt.le {a b : ByteArray} (h : Lt a b) : Le a b := by unfold Lt at h; unfold Le; have := cmpS_neg a b; omega
theorem Lt.ne {a b : ByteArray} (h : Lt a b) : a ≠ b := fun e => by have := (cmpS_zero a b).2 e; unfold Lt at h; omega
theorem not_lt_le {a b : ByteArray} (h : ¬ cmpS a b < 0) : Le b a := by unfold Le; omega
theorem Le.lt_or_eq {a b : ByteArray} (h : Le a b) : Lt a b ∨ a = b := by
  unfold Le at h
  have := cmpS_neg a b
  by_cases h0 : cmpS a b = 0
  · exact .inr ((cmpS_zero a b).1 h0)
  · exact .inl (by unfold Lt; omega)
theorem Le.refl (a : ByteArray) : Le a a := by unfold Le; rw [(cmpS_zero a a).2 rfl]; exact Int.le_refl _
theorem Le.trans {a b c : ByteArray} (h1 : Le a b) (h2 : Le b c) : Le a c := by
  rcases h1.lt_or_eq with h | rfl
  · rcases h2.lt_or_eq with h' | rfl
    · exact (h.trans h').le
    · exact h1
  · exact h2
theorem Le.trans_lt {a b c : ByteArray} (h1 : Le a b) (h2 : Lt b c) : Lt a c := by
  rcases h1.lt_or_eq with h | rfl
  · exact h.trans h2
  · exact h2
theorem Lt.trans_le {a b c : ByteArray} (h1 : Lt a b) (h2 : Le b c) : Lt a c := by
  rcases h2.lt_or_eq with h | rfl
  · exact h1.trans h
  · exact h1
theorem Lt.asymm {a b : ByteArray} (h : Lt a b) (h' : Le b a) : False := (h.trans_le h').ne rfl

/-- the p-th pair, and its key -/
def pat (xs : List Pr) (p : Nat) : Pr := xs[p]?.getD (ByteArray.empty, ByteArray.empty)
def kat (xs : List Pr) (p : Nat) : ByteArray := (pat xs p).1
theorem pat_get {xs : List Pr} {p : Nat} (h : p < xs.length) : xs[p]? = some (pat xs p) := by
  unfold pat; rw [List.getElem?_eq_getElem h]; rfl
/-- from a to b the keys do not fall -/
def Srt (xs : List Pr) (a b : Nat) : Prop := ∀ p q, a ≤ p → p < q → q < b → Le (kat xs p) (kat xs q)
/-- the pairs of each key are the same, in the same order -/
def Stab (xs ys : List Pr) : Prop := ∀ k : ByteArray, ys.filter (fun p => decide (p.1 = k)) = xs.filter (fun p => decide (p.1 = k))
theorem Stab.refl (xs : List Pr) : Stab xs xs := fun _ => rfl
theorem Stab.trans {xs ys zs : List Pr} (h : Stab xs ys) (h' : Stab ys zs) : Stab xs zs := fun k => (h' k).trans (h k)
/-- two stretches with no key in common change places -/
theorem stab_rot (a u v b : List Pr) (h : ∀ x ∈ u, ∀ y ∈ v, x.1 ≠ y.1) : Stab (a ++ u ++ v ++ b) (a ++ v ++ u ++ b) := by
  intro k
  simp only [List.filter_append, List.append_assoc]
  congr 1
  rw [← List.append_assoc, ← List.append_assoc]
  congr 1
  by_cases hu : ∃ x ∈ u, x.1 = k
  · obtain ⟨x, hx, hk⟩ := hu
    have : v.filter (fun p => decide (p.1 = k)) = [] := by
      rw [List.filter_eq_nil_iff]
      intro y hy hyk
      simp at hyk
      exact h x hx y hy (hk.trans hyk.symm)
    simp [this]
  · have : u.filter (fun p => decide (p.1 = k)) = [] := by
      rw [List.filter_eq_nil_iff]
      intro y hy hyk
      simp at hyk
      exact hu ⟨y, hy, hyk⟩
    simp [this]
/-- two pairs change places -/
def sw (xs : List Pr) (i j : Nat) : List Pr := (xs.set i (pat xs j)).set j (pat xs i)
theorem sw_length (xs : List Pr) (i j : Nat) : (sw xs i j).length = xs.length := by simp [sw]
theorem pat_sw {xs : List Pr} {i j : Nat} (hi : i < xs.length) (hj : j < xs.length) (p : Nat) :
    pat (sw xs i j) p = if p = j then pat xs i else if p = i then pat xs j else pat xs p := by
  unfold sw
  generalize hx : pat xs i = x
  generalize hy : pat xs j = y
  unfold pat
  rw [List.getElem?_set, List.length_set, List.getElem?_set]
  by_cases h1 : j = p
  · subst h1; simp [hj]
  · by_cases h2 : i = p
    · subst h2
      have : ¬ i = j := fun e => h1 e.symm
      simp [h1, hi, this]
    · have e1 : ¬ p = j := fun e => h1 e.symm
      have e2 : ¬ p = i := fun e => h2 e.symm
      simp [h1, h2, e1, e2]
theorem sw_get {xs : List Pr} {i j p : Nat} (h1 : p ≠ i) (h2 : p ≠ j) : (sw xs i j)[p]? = xs[p]? := by
  unfold sw
  rw [List.getElem?_set_ne (Ne.symm h2), List.getElem?_set_ne (Ne.symm h1)]
/-- of two neighbours with unlike keys -/
theorem stab_sw {xs : List Pr} {j : Nat} (hj : j + 1 < xs.length) (h : kat xs (j + 1) ≠ kat xs j) : Stab xs (sw xs (j + 1) j) := by
  have hlt : j < xs.length := by omega
  have e1 : xs = xs.take j ++ [pat xs j] ++ [pat xs (j + 1)] ++ xs.drop (j + 2) := by
    have h1 : xs.drop j = pat xs j :: pat xs (j + 1) :: xs.drop (j + 2) := by
      rw [List.drop_eq_getElem_cons hlt, List.drop_eq_getElem_cons hj]
      simp [pat, hlt, hj]
    calc xs = xs.take j ++ xs.drop j := (List.take_append_drop j xs).symm
      _ = _ := by rw [h1]; simp
  have hl : (xs.take j).length = j := by rw [List.length_take]; omega
  have e2 : sw xs (j + 1) j = xs.take j ++ [pat xs (j + 1)] ++ [pat xs j] ++ xs.drop (j + 2) := by
    unfold sw
    generalize hx : pat xs (j + 1) = x at *
    generalize hy : pat xs j = y at *
    generalize xs.take j = t at *
    generalize xs.drop (j + 2) = d at *
    subst e1
    subst hl
    simp
  have := stab_rot (xs.take j) [pat xs j] [pat xs (j + 1)] (xs.drop (j + 2)) (by
    intro x hx y hy
    simp at hx hy
    subst hx hy
    exact Ne.symm h)
  rw [← e1, ← e2] at this
  exact this

/-- the element at j goes down; all others from a to i are in order, and those behind it are greater -/
def Ins (xs : List Pr) (a j i : Nat) : Prop :=
  (∀ p q, a ≤ p → p < q → q ≤ i → p ≠ j → q ≠ j → Le (kat xs p) (kat xs q)) ∧ (∀ q, j < q → q ≤ i → Lt (kat xs j) (kat xs q))
theorem ins_start {xs : List Pr} {a i : Nat} (h : Srt xs a i) : Ins xs a i i :=
  ⟨fun p q h1 h2 h3 h4 h5 => h p q h1 h2 (by omega), fun q h1 h2 => by omega⟩
theorem ins_end {xs : List Pr} {a j i : Nat} (h : Ins xs a j i) (he : j ≤ a ∨ Le (kat xs (j - 1)) (kat xs j)) : Srt xs a (i + 1) := by
  intro p q h1 h2 h3
  by_cases hp : p = j
  · subst hp; exact (h.2 q h2 (by omega)).le
  · by_cases hq : q = j
    · subst hq
      rcases he with he | he
      · omega
      · by_cases hp1 : p = q - 1
        · rw [hp1]; exact he
        · exact (h.1 p (q - 1) h1 (by omega) (by omega) hp (by omega)).trans he
    · exact h.1 p q h1 h2 (by omega) hp hq
theorem ins_step {xs : List Pr} {a j i : Nat} (h : Ins xs a (j + 1) i) (ha : a ≤ j) (hi : j + 1 ≤ i) (hl : i < xs.length) (hlt : Lt (kat xs (j + 1)) (kat xs j)) : Ins (sw xs (j + 1) j) a j i := by
  have hk : ∀ p, kat (sw xs (j + 1) j) p = if p = j then kat xs (j + 1) else if p = j + 1 then kat xs j else kat xs p := fun p => by
    unfold kat
    rw [pat_sw (by omega) (by omega)]
    split
    · rfl
    · split <;> rfl
  constructor
  · intro p q h1 h2 h3 h4 h5
    rw [hk, hk, if_neg h4, if_neg h5]
    by_cases hp : p = j + 1
    · rw [if_pos hp, if_neg (by omega)]
      exact h.1 j q ha (by omega) h3 (by omega) (by omega)
    · rw [if_neg hp]
      by_cases hq : q = j + 1
      · rw [if_pos hq]
        exact h.1 p j h1 (by omega) (by omega) hp (by omega)
      · rw [if_neg hq]
        exact h.1 p q h1 h2 h3 hp hq
  · intro q h1 h2
    rw [hk, hk, if_pos rfl, if_neg (by omega)]
    by_cases hq : q = j + 1
    · rw [if_pos hq]; exact hlt
    · rw [if_neg hq]; exact h.2 q (by omega) h2
end Go.Proofs.Ytgldgdpgbfejmaa
