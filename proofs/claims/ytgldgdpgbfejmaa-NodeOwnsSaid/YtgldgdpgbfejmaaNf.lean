/- What the chunks of a node have; the sets and lists that tell it: plain mathematics. -/
import Derived.Test.YtgldgdpgbfejmaaNe
namespace Go.Proofs.Ytgldgdpgbfejmaa
open Go.RowKit Go.Lib
set_option linter.unusedVariables false
set_option linter.unusedSimpArgs false
/-- what a chunk has: nothing, a pair, a child (its block) -/
inductive Sl where
  | no
  | pr (p : Pr)
  | kd (k : Nat)
abbrev Slots := Nat → Sl
def Sl.p? : Sl → Option Pr
  | .pr p => some p
  | _ => none
def Sl.k? : Sl → Option Nat
  | .kd k => some k
  | _ => none
/-- a chunk changed -/
def Slots.put (S : Slots) (i : Nat) (x : Sl) : Slots := fun j => if j = i then x else S j
/-- what the first n chunks have -/
def fm {α : Type} (f : Nat → Option α) (n : Nat) : List α := (List.range n).filterMap f
def rest {α : Type} (f : Nat → Option α) (i : Nat) : List α := (List.range' (i + 1) (31 - i)).filterMap f
theorem fm_split {α : Type} (f : Nat → Option α) (i : Nat) (h : i < 32) : fm f 32 = fm f i ++ ((f i).toList ++ rest f i) := by
  have e : List.range 32 = List.range i ++ (i :: List.range' (i + 1) (31 - i)) := by
    have h1 : List.range 32 = List.range (i + (1 + (31 - i))) := by congr 1; omega
    rw [h1, List.range_eq_range', List.range_eq_range', ← List.range'_append_1, Nat.zero_add, Nat.add_comm 1 (31 - i), List.range'_succ]
  unfold fm rest
  rw [e, List.filterMap_append, List.filterMap_cons]
  cases f i <;> simp
theorem fmap_congr {α : Type} (f g : Nat → Option α) : ∀ l : List Nat, (∀ j ∈ l, f j = g j) → l.filterMap f = l.filterMap g
  | [], _ => rfl
  | x :: r, h => by rw [List.filterMap_cons, List.filterMap_cons, h x (by simp), fmap_congr f g r (fun j hj => h j (by simp [hj]))]
theorem fm_congr {α : Type} (f g : Nat → Option α) (n : Nat) (h : ∀ j, j < n → f j = g j) : fm f n = fm g n := by
  unfold fm
  apply fmap_congr
  intro j hj
  exact h j (List.mem_range.1 hj)
theorem rest_congr {α : Type} (f g : Nat → Option α) (i : Nat) (h : ∀ j, i < j → f j = g j) : rest f i = rest g i := by
  unfold rest
  apply fmap_congr
  intro j hj
  exact h j (by have := (List.mem_range'_1.1 hj).1; omega)
theorem fm_upd {α : Type} (f g : Nat → Option α) (i : Nat) (h : i < 32) (hg : ∀ j, j ≠ i → g j = f j) : fm g 32 = fm f i ++ ((g i).toList ++ rest f i) := by
  rw [fm_split g i h, fm_congr g f i (fun j hj => hg j (by omega)), rest_congr g f i (fun j hj => hg j (by omega))]
theorem fm_put {α : Type} (f g : Nat → Option α) (i : Nat) (b : α) (h : i < 32) (hg : ∀ j, j ≠ i → g j = f j) (hb : g i = some b) : fm g 32 = putAt (fm f 32) (fm f i).length (f i).isSome b := by
  rw [fm_upd f g i h hg, hb, fm_split f i h]
  cases hf : f i with
  | none =>
    unfold putAt insAt
    simp
  | some a =>
    unfold putAt
    simp
theorem fm_erase {α : Type} (f g : Nat → Option α) (i : Nat) (h : i < 32) (hg : ∀ j, j ≠ i → g j = f j) (hb : g i = none) : fm g 32 = if (f i).isSome then (fm f 32).eraseIdx (fm f i).length else fm f 32 := by
  rw [fm_upd f g i h hg, hb, fm_split f i h]
  cases hf : f i with
  | none => simp
  | some a => simp [List.eraseIdx_append_of_length_le]
theorem fm_same {α : Type} (f g : Nat → Option α) (h : ∀ j, g j = f j) : fm g 32 = fm f 32 := fm_congr _ _ _ (fun j _ => h j)
theorem fm_len_le {α : Type} (f : Nat → Option α) (n : Nat) : (fm f n).length ≤ n := by
  unfold fm
  have := List.length_filterMap_le f (List.range n)
  simpa using this
theorem fm_lt {α : Type} (f : Nat → Option α) (i : Nat) (h : i < 32) (hs : (f i).isSome = true) : (fm f i).length < (fm f 32).length := by
  rw [fm_split f i h]
  obtain ⟨a, ha⟩ := Option.isSome_iff_exists.1 hs
  simp [ha]
theorem fm_le {α : Type} (f : Nat → Option α) (i : Nat) (h : i < 32) : (fm f i).length ≤ (fm f 32).length := by
  rw [fm_split f i h]; simp
theorem fm_at {α : Type} (f : Nat → Option α) (i : Nat) (a : α) (h : i < 32) (hs : f i = some a) : (fm f 32)[(fm f i).length]? = some a := by
  rw [fm_split f i h, hs]
  simp
theorem fm_succ {α : Type} (f : Nat → Option α) (n : Nat) : fm f (n + 1) = fm f n ++ (f n).toList := by
  unfold fm
  rw [List.range_succ, List.filterMap_append]
  cases h : f n <;> simp [h]
/-- the set d has just the chunks of which f says so -/
structure BitsOf (d : Nat) (f : Nat → Bool) : Prop where
  lt : d < 4294967296
  bit : ∀ i, i < 32 → d.testBit i = f i
theorem testBit_big {d i : Nat} (h : d < 4294967296) (hi : 32 ≤ i) : d.testBit i = false := Nat.testBit_lt_two_pow (Nat.lt_of_lt_of_le h (by
  have : (2 : Nat) ^ 32 ≤ 2 ^ i := Nat.pow_le_pow_right (by decide) hi
  simpa using this))
theorem BitsOf.ext {d e : Nat} {f : Nat → Bool} (h : BitsOf d f) (k : BitsOf e f) : d = e := by
  apply Nat.eq_of_testBit_eq
  intro i
  rcases Nat.lt_or_ge i 32 with hi | hi
  · rw [h.bit i hi, k.bit i hi]
  · rw [testBit_big h.lt hi, testBit_big k.lt hi]
theorem onl_nat (i : Nat) (h : i < 32) : onl (i : Int) = 2 ^ i := by simp [onl]; omega
theorem has_bit (d i : Nat) (h : i < 32) : (d &&& onl (i : Int) != 0) = d.testBit i := by
  rw [onl_nat i h]
  have e : d &&& 2 ^ i = if d.testBit i = true then 2 ^ i else 0 := by
    apply Nat.eq_of_testBit_eq
    intro j
    rw [Nat.testBit_and, Nat.testBit_two_pow]
    by_cases hj : i = j
    · subst hj
      cases hb : d.testBit i <;> simp [hb, Nat.testBit_two_pow_self]
    · cases hb : d.testBit i <;> simp [hj, Nat.testBit_two_pow]
  rw [e]
  have := Nat.two_pow_pos i
  cases hb : d.testBit i <;> simp <;> omega
theorem has_out (d : Nat) (i : Int) (h : i < 0 ∨ 32 ≤ i) : (d &&& onl i != 0) = false := by
  have : onl i = 0 := by unfold onl; rw [if_neg (by omega)]
  simp [this]
theorem BitsOf.with_ {d i : Nat} {f g : Nat → Bool} (h : BitsOf d f) (hi : i < 32) (hg : ∀ j, j ≠ i → g j = f j) (hb : g i = true) : BitsOf (d ||| onl (i : Int)) g := by
  refine ⟨?_, fun j hj => ?_⟩
  · have := onl_lt (i : Int)
    have h1 := h.lt
    have := Nat.or_lt_two_pow (n := 32) (by simpa using h1) (by simpa using this)
    simpa using this
  · rw [onl_nat i hi, Nat.testBit_or, Nat.testBit_two_pow, h.bit j hj]
    by_cases e : i = j
    · subst e; simp [hb]
    · rw [hg j (Ne.symm e)]; simp [e]
theorem BitsOf.wo_ {d i : Nat} {f g : Nat → Bool} (h : BitsOf d f) (hi : i < 32) (hg : ∀ j, j ≠ i → g j = f j) (hb : g i = false) : BitsOf (wo d (onl (i : Int))) g := by
  have hlt := onl_lt (i : Int)
  refine ⟨?_, fun j hj => ?_⟩
  · unfold wo
    exact Nat.lt_of_le_of_lt Nat.and_le_left h.lt
  · unfold wo
    have e : 4294967295 - onl (i : Int) = 2 ^ 32 - (onl (i : Int) + 1) := by simp
    rw [e, Nat.testBit_and, Nat.testBit_two_pow_sub_succ (by simpa using hlt), h.bit j hj, onl_nat i hi, Nat.testBit_two_pow]
    by_cases e : i = j
    · subst e; simp [hb]
    · rw [hg j (Ne.symm e)]; simp [e, hj]
theorem BitsOf.same {d : Nat} {f g : Nat → Bool} (h : BitsOf d f) (hg : ∀ j, g j = f j) : BitsOf d g := ⟨h.lt, fun i hi => (h.bit i hi).trans (hg i).symm⟩
theorem BitsOf.zero {f : Nat → Bool} (h : ∀ j, f j = false) : BitsOf 0 f := ⟨by decide, fun i _ => by simp [h i]⟩
theorem cnt_fm {α : Type} {d : Nat} (f : Nat → Option α) (h : BitsOf d (fun i => (f i).isSome)) (n : Nat) (hn : n ≤ 32) : cnt n d = (fm f n).length := by
  induction n with
  | zero => rfl
  | succ n ih =>
    rw [cnt_add n 1 d, ih (by omega), fm_succ, List.length_append]
    congr 1
    have hb := h.bit n (by omega)
    rw [Nat.testBit_eq_decide_div_mod_eq] at hb
    simp only [cnt]
    have : d / 2 ^ n % 2 < 2 := Nat.mod_lt _ (by decide)
    rcases (by omega : d / 2 ^ n % 2 = 0 ∨ d / 2 ^ n % 2 = 1) with hx | hx
    · rw [hx] at hb ⊢
      cases hf : f n with
      | none => rfl
      | some a => rw [hf] at hb; simp at hb
    · rw [hx] at hb ⊢
      cases hf : f n with
      | none => rw [hf] at hb; simp at hb
      | some a => rfl
end Go.Proofs.Ytgldgdpgbfejmaa
