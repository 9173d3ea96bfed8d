/- Pairs in memory; what comparing two keys returns; the functions by which lists of pairs are sorted and searched. -/
import Derived.Test.YtchimfgbdfmegaaHab
import Derived.Lib.Bytealg
import Derived.Laws.Externs
import Derived.StillTailTactics
import Derived.Deep.DeepCutAuto
import Derived.Shelf.RegionOpen
import Derived.Shelf.RegionOpenPlain
import Derived.Laws.AppendOwnNone
import Derived.Lib.SliceRun
import Derived.Deep.QuietTactic
import Derived.BigQuiet
import Derived.Laws.Strings
import Derived.Laws.StructEq
namespace Go.Proofs.Ytchimfgbdfmegaa
open Go.RowKit Go.Lib
set_option linter.unusedVariables false
set_option maxRecDepth 100000
set_option linter.unusedSimpArgs false

/-- how two keys compare -/
def cmpS (a b : ByteArray) : Int := compareBytes a.data.toList b.data.toList
theorem bcompare (a b : ByteArray) (w : World) : Calls Try.prog 89 #[.string a, .string b] w fun e w' => e = .returned (.int .i64 (cmpS a b)) ∧ w = w' := by
  go_enter Try.func89, Try.ntmps89
  go_wp2
  rw [run_callFunc_extern Try.func106 (by kernel_rfl) (by kernel_rfl) (by kernel_rfl) (e := Extern.BytealgCompare.compare) (by kernel_rfl), run_compareString]
  go_wp2
  go_ret
  exact ⟨rfl, rfl⟩
theorem compare (a b : ByteArray) (w : World) : Calls Try.prog 61 #[.string a, .string b] w fun e w' => e = .returned (.int .i64 (cmpS a b)) ∧ w = w' := by
  go_enter Try.func61, Try.ntmps61
  go_wp2_with (go_at_call 89; refine (bcompare a b _).mono ?_; rintro e w' ⟨rfl, rfl⟩)
  go_ret
  exact ⟨rfl, rfl⟩
/-- a key and its value -/
abbrev Pr := ByteArray × ByteArray
/-- a pair as a value -/
def Pr.v (p : Pr) : Value := .agg #[.string p.1, .string p.2]
/-- pairs as the cells of a row -/
def flat (xs : List Pr) : List Value := xs.flatMap fun p => [.string p.1, .string p.2]
theorem flat_length (xs : List Pr) : (flat xs).length = xs.length * 2 := by
  induction xs with
  | nil => rfl
  | cons x xs ih => simp only [flat, List.flatMap_cons, List.length_append, List.length_cons, List.length_nil] at *; omega
theorem flat_append (xs ys : List Pr) : flat (xs ++ ys) = flat xs ++ flat ys := by simp [flat]
theorem flat_get (xs : List Pr) (j : Nat) (p : Pr) (h : xs[j]? = some p) : (flat xs)[j * 2]? = some (.string p.1) ∧ (flat xs)[j * 2 + 1]? = some (.string p.2) := by
  induction xs generalizing j with
  | nil => simp at h
  | cons x xs ih =>
    cases j with
    | zero => simp at h; subst h; simp [flat]
    | succ j =>
      simp at h
      have := ih j h
      rw [show (j + 1) * 2 = j * 2 + 2 by omega, show j * 2 + 2 + 1 = (j * 2 + 1) + 2 by omega]
      simpa [flat] using this
theorem flat_set (xs : List Pr) (j : Nat) (p : Pr) (h : j < xs.length) : ((flat xs).set (j * 2) (.string p.1)).set (j * 2 + 1) (.string p.2) = flat (xs.set j p) := by
  induction xs generalizing j with
  | nil => simp at h
  | cons x xs ih =>
    cases j with
    | zero => simp [flat]
    | succ j =>
      have := ih j (by simpa using h)
      rw [show (j + 1) * 2 = j * 2 + 2 by omega, show j * 2 + 2 + 1 = (j * 2 + 1) + 2 by omega]
      simpa [flat] using this

/-- the function that Sorted compares by: by the keys -/
theorem cmp43 (p q : Pr) (w : World) : Calls Try.prog 60 #[p.v, q.v] w fun e w' => e = .returned (.int .i64 (cmpS p.1 q.1)) ∧ Below w.heap.size w w' := by
  unfold Pr.v
  go_enter Try.func60, Try.ntmps60
  go_wp2_with (go_at_call 61; refine (compare p.1 q.1 _).mono ?_; rintro e w' ⟨rfl, rfl⟩)
  go_ret
  exact ⟨rfl, ((Below.refl _ w).alloc (Nat.le_refl _) _).alloc (by simp) _⟩
/-- the function that Find compares by -/
theorem cmp48 (p : Pr) (k : ByteArray) (w : World) : Calls Try.prog 63 #[p.v, .string k] w fun e w' => e = .returned (.int .i64 (cmpS p.1 k)) ∧ Below w.heap.size w w' := by
  unfold Pr.v
  go_enter Try.func63, Try.ntmps63
  go_wp2_with (go_at_call 61; refine (compare p.1 k _).mono ?_; rintro e w' ⟨rfl, rfl⟩)
  go_ret
  exact ⟨rfl, (Below.refl _ w).alloc (Nat.le_refl _) _⟩

/-- the slice that begins at A has these pairs -/
def Rd (w : World) (A : Option Addr) (xs : List Pr) : Prop :=
  ∀ j p, xs[j]? = some p → ∃ g off, A = some ⟨g, off, none⟩ ∧ w.cell? ⟨g, off + j * 2, none⟩ = some (.string p.1) ∧ w.cell? ⟨g, off + j * 2 + 1, none⟩ = some (.string p.2)
theorem Rd.below {w w' : World} {A : Option Addr} {xs : List Pr} (h : Rd w A xs) (hb : Below w.heap.size w w') : Rd w' A xs := fun j p hj => by
  obtain ⟨g, off, e, h1, h2⟩ := h j p hj
  exact ⟨g, off, e, (hb.cell (World.block_lt_of_cell? w _ h1)).trans h1, (hb.cell (World.block_lt_of_cell? w _ h2)).trans h2⟩
/-- a row of pairs that the call owns -/
def Own (base : Nat) (w : World) (v : Value) (xs : List Pr) : Prop := w.ownsRow base 34 2 v xs.length (flat xs)
theorem Own.rd {base : Nat} {w : World} {v : Value} {xs : List Pr} (h : Own base w v xs) : ∃ A c, v = .slice A xs.length c ∧ Rd w A xs ∧ (A = none ∨ ∃ g, A = some ⟨g, 0, none⟩) := by
  rcases h.2 with ⟨h1, h0⟩ | ⟨g, cap, cur, rfl, hg, _⟩
  · exact ⟨none, 0, by rw [h1, h0], fun j p hj => by rw [List.length_eq_zero_iff.1 h0] at hj; simp at hj, .inl rfl⟩
  · refine ⟨_, cap, rfl, fun j p hj => ⟨g, 0, rfl, ?_⟩, .inr ⟨g, rfl⟩⟩
    have hf := flat_get xs j p hj
    obtain ⟨hl, _⟩ := List.getElem?_eq_some_iff.1 hj
    have h' : w.ownsRow base 34 2 (.slice (some ⟨g, 0, none⟩) xs.length cap) xs.length (flat xs) := h
    rw [Nat.zero_add, h'.cellAt (j * 2) (by omega), h'.cellAt (j * 2 + 1) (by omega)]
    exact hf
end Go.Proofs.Ytchimfgbdfmegaa
/- Keys are in one order; sorted stretches of a list, and lists that have the pairs of each key in the same order. -/
namespace Go.Proofs.Ytchimfgbdfmegaa
open Go.Lib
set_option linter.unusedVariables false
set_option maxRecDepth 100000
set_option linter.unusedSimpArgs false

theorem cb_neg (a b : List UInt8) : compareBytes b a = - compareBytes a b := by
  induction a generalizing b with
  | nil => cases b <;> simp [compareBytes]
  | cons x a ih =>
    cases b with
    | nil => simp [compareBytes]
    | cons y b =>
      simp only [compareBytes]
      by_cases h1 : x < y
      · have h2 : ¬ y < x := fun h => absurd (UInt8.lt_trans h1 h) (UInt8.lt_irrefl x)
        simp [h1, h2]
      · by_cases h2 : y < x
        · simp [h1, h2]
        · simp [h1, h2, ih]
theorem cb_zero (a b : List UInt8) : compareBytes a b = 0 ↔ a = b := by
  induction a generalizing b with
  | nil => cases b <;> simp [compareBytes]
  | cons x a ih =>
    cases b with
    | nil => simp [compareBytes]
    | cons y b =>
      simp only [compareBytes]
      by_cases h1 : x < y
      · have : x ≠ y := UInt8.ne_of_lt h1
        simp [h1, this]
      · by_cases h2 : y < x
        · have : x ≠ y := fun e => UInt8.ne_of_lt h2 e.symm
          simp [h1, h2, this]
        · have : x = y := UInt8.le_antisymm (UInt8.not_lt.1 h2) (UInt8.not_lt.1 h1)
          simp [h1, h2, ih, this]
theorem cb_trans (a b c : List UInt8) (h1 : compareBytes a b < 0) (h2 : compareBytes b c < 0) : compareBytes a c < 0 := by
  induction a generalizing b c with
  | nil =>
    cases b with
    | nil => simp [compareBytes] at h1
    | cons y b =>
      cases c with
      | nil => simp [compareBytes] at h2
      | cons z c => simp [compareBytes]
  | cons x a ih =>
    cases b with
    | nil => simp [compareBytes] at h1
    | cons y b =>
      cases c with
      | nil => simp [compareBytes] at h2
      | cons z c =>
        simp only [compareBytes] at h1 h2 ⊢
        by_cases hxy : x < y
        · by_cases hyz : y < z
          · simp [UInt8.lt_trans hxy hyz]
          · by_cases hzy : z < y
            · simp [hyz, hzy] at h2
            · have e : y = z := UInt8.le_antisymm (UInt8.not_lt.1 hzy) (UInt8.not_lt.1 hyz)
              subst e
              simp [hxy]
        · by_cases hyx : y < x
          · simp [hxy, hyx] at h1
          · have e : x = y := UInt8.le_antisymm (UInt8.not_lt.1 hyx) (UInt8.not_lt.1 hxy)
            subst e
            simp only [hxy, if_false] at h1
            by_cases hyz : x < z
            · simp [hyz]
            · by_cases hzy : z < x
              · simp [hyz, hzy] at h2
              · simp only [hyz, hzy, if_false] at h2 ⊢
                exact ih b c h1 h2
theorem bytes_ext {a b : ByteArray} (h : a.data.toList = b.data.toList) : a = b := by
  obtain ⟨a⟩ := a
  obtain ⟨b⟩ := b
  simp at h
  rw [h]
theorem cmpS_neg (a b : ByteArray) : cmpS b a = - cmpS a b := cb_neg _ _
theorem cmpS_zero (a b : ByteArray) : cmpS a b = 0 ↔ a = b := ⟨fun h => bytes_ext ((cb_zero _ _).1 h), fun h => h ▸ (cb_zero _ _).2 rfl⟩
/-- less -/
def Lt (a b : ByteArray) : Prop := cmpS a b < 0
/-- not greater -/
def Le (a b : ByteArray) : Prop := 0 ≤ cmpS b a
theorem Lt.trans {a b c : ByteArray} (h1 : Lt a b) (h2 : Lt b c) : Lt a c := cb_trans _ _ _ h1 h2
theorem Lt.le {a b : ByteArray} (h : Lt a b) : Le a b := by unfold Lt at h; unfold Le; have := cmpS_neg a b; omega
theorem Lt.ne {a b : ByteArray} (h : Lt a b) : a ≠ b := fun e => by have := (cmpS_zero a b).2 e; unfold Lt at h; omega
theorem not_lt_le {a b : ByteArray} (h : ¬ cmpS a b < 0) : Le b a := by unfold Le; omega
theorem Le.lt_or_eq {a b : ByteArray} (h : Le a b) : Lt a b ∨ a = b := by
  unfold Le at h
  have := cmpS_neg a b
  by_cases h0 : cmpS a b = 0
  · exact .inr ((cmpS_zero a b).1 h0)
  · exact .inl (by unfold Lt; omega)
theorem Le.refl (a : ByteArray) : Le a a := by unfold Le; rw [(cmpS_zero a a).2 rfl]; exact Int.le_refl _
theorem Le.trans {a b c : ByteArray} (h1 : Le a b) (h2 : Le b c) : Le a c := by
  rcases h1.lt_or_eq with h | rfl
  · rcases h2.lt_or_eq with h' | rfl
    · exact (h.trans h').le
    · exact h1
  · exact h2
theorem Le.trans_lt {a b c : ByteArray} (h1 : Le a b) (h2 : Lt b c) : Lt a c := by
  rcases h1.lt_or_eq with h | rfl
  · exact h.trans h2
  · exact h2
theorem Lt.trans_le {a b c : ByteArray} (h1 : Lt a b) (h2 : Le b c) : Lt a c := by
  rcases h2.lt_or_eq with h | rfl
  · exact h1.trans h
  · exact h1
theorem Lt.asymm {a b : ByteArray} (h : Lt a b) (h' : Le b a) : False := (h.trans_le h').ne rfl

/-- the p-th pair, and its key -/
def pat (xs : List Pr) (p : Nat) : Pr := xs[p]?.getD (ByteArray.empty, ByteArray.empty)
def kat (xs : List Pr) (p : Nat) : ByteArray := (pat xs p).1
theorem pat_get {xs : List Pr} {p : Nat} (h : p < xs.length) : xs[p]? = some (pat xs p) := by
  unfold pat; rw [List.getElem?_eq_getElem h]; rfl
/-- from a to b the keys do not fall -/
def Srt (xs : List Pr) (a b : Nat) : Prop := ∀ p q, a ≤ p → p < q → q < b → Le (kat xs p) (kat xs q)
/-- the pairs of each key are the same, in the same order -/
def Stab (xs ys : List Pr) : Prop := ∀ k : ByteArray, ys.filter (fun p => decide (p.1 = k)) = xs.filter (fun p => decide (p.1 = k))
theorem Stab.refl (xs : List Pr) : Stab xs xs := fun _ => rfl
theorem Stab.trans {xs ys zs : List Pr} (h : Stab xs ys) (h' : Stab ys zs) : Stab xs zs := fun k => (h' k).trans (h k)
/-- two stretches with no key in common change places -/
theorem stab_rot (a u v b : List Pr) (h : ∀ x ∈ u, ∀ y ∈ v, x.1 ≠ y.1) : Stab (a ++ u ++ v ++ b) (a ++ v ++ u ++ b) := by
  intro k
  simp only [List.filter_append, List.append_assoc]
  congr 1
  rw [← List.append_assoc, ← List.append_assoc]
  congr 1
  by_cases hu : ∃ x ∈ u, x.1 = k
  · obtain ⟨x, hx, hk⟩ := hu
    have : v.filter (fun p => decide (p.1 = k)) = [] := by
      rw [List.filter_eq_nil_iff]
      intro y hy hyk
      simp at hyk
      exact h x hx y hy (hk.trans hyk.symm)
    simp [this]
  · have : u.filter (fun p => decide (p.1 = k)) = [] := by
      rw [List.filter_eq_nil_iff]
      intro y hy hyk
      simp at hyk
      exact hu ⟨y, hy, hyk⟩
    simp [this]
/-- two pairs change places -/
def sw (xs : List Pr) (i j : Nat) : List Pr := (xs.set i (pat xs j)).set j (pat xs i)
theorem sw_length (xs : List Pr) (i j : Nat) : (sw xs i j).length = xs.length := by simp [sw]
theorem pat_sw {xs : List Pr} {i j : Nat} (hi : i < xs.length) (hj : j < xs.length) (p : Nat) :
    pat (sw xs i j) p = if p = j then pat xs i else if p = i then pat xs j else pat xs p := by
  unfold sw
  generalize hx : pat xs i = x
  generalize hy : pat xs j = y
  unfold pat
  rw [List.getElem?_set, List.length_set, List.getElem?_set]
  by_cases h1 : j = p
  · subst h1; simp [hj]
  · by_cases h2 : i = p
    · subst h2
      have : ¬ i = j := fun e => h1 e.symm
      simp [h1, hi, this]
    · have e1 : ¬ p = j := fun e => h1 e.symm
      have e2 : ¬ p = i := fun e => h2 e.symm
      simp [h1, h2, e1, e2]
theorem sw_get {xs : List Pr} {i j p : Nat} (h1 : p ≠ i) (h2 : p ≠ j) : (sw xs i j)[p]? = xs[p]? := by
  unfold sw
  rw [List.getElem?_set_ne (Ne.symm h2), List.getElem?_set_ne (Ne.symm h1)]
/-- of two neighbours with unlike keys -/
theorem stab_sw {xs : List Pr} {j : Nat} (hj : j + 1 < xs.length) (h : kat xs (j + 1) ≠ kat xs j) : Stab xs (sw xs (j + 1) j) := by
  have hlt : j < xs.length := by omega
  have e1 : xs = xs.take j ++ [pat xs j] ++ [pat xs (j + 1)] ++ xs.drop (j + 2) := by
    have h1 : xs.drop j = pat xs j :: pat xs (j + 1) :: xs.drop (j + 2) := by
      rw [List.drop_eq_getElem_cons hlt, List.drop_eq_getElem_cons hj]
      simp [pat, hlt, hj]
    calc xs = xs.take j ++ xs.drop j := (List.take_append_drop j xs).symm
      _ = _ := by rw [h1]; simp
  have hl : (xs.take j).length = j := by rw [List.length_take]; omega
  have e2 : sw xs (j + 1) j = xs.take j ++ [pat xs (j + 1)] ++ [pat xs j] ++ xs.drop (j + 2) := by
    unfold sw
    generalize hx : pat xs (j + 1) = x at *
    generalize hy : pat xs j = y at *
    generalize xs.take j = t at *
    generalize xs.drop (j + 2) = d at *
    subst e1
    subst hl
    simp
  have := stab_rot (xs.take j) [pat xs j] [pat xs (j + 1)] (xs.drop (j + 2)) (by
    intro x hx y hy
    simp at hx hy
    subst hx hy
    exact Ne.symm h)
  rw [← e1, ← e2] at this
  exact this

/-- the element at j goes down; all others from a to i are in order, and those behind it are greater -/
def Ins (xs : List Pr) (a j i : Nat) : Prop :=
  (∀ p q, a ≤ p → p < q → q ≤ i → p ≠ j → q ≠ j → Le (kat xs p) (kat xs q)) ∧ (∀ q, j < q → q ≤ i → Lt (kat xs j) (kat xs q))
theorem ins_start {xs : List Pr} {a i : Nat} (h : Srt xs a i) : Ins xs a i i :=
  ⟨fun p q h1 h2 h3 h4 h5 => h p q h1 h2 (by omega), fun q h1 h2 => by omega⟩
theorem ins_end {xs : List Pr} {a j i : Nat} (h : Ins xs a j i) (he : j ≤ a ∨ Le (kat xs (j - 1)) (kat xs j)) : Srt xs a (i + 1) := by
  intro p q h1 h2 h3
  by_cases hp : p = j
  · subst hp; exact (h.2 q h2 (by omega)).le
  · by_cases hq : q = j
    · subst hq
      rcases he with he | he
      · omega
      · by_cases hp1 : p = q - 1
        · rw [hp1]; exact he
        · exact (h.1 p (q - 1) h1 (by omega) (by omega) hp (by omega)).trans he
    · exact h.1 p q h1 h2 (by omega) hp hq
theorem ins_step {xs : List Pr} {a j i : Nat} (h : Ins xs a (j + 1) i) (ha : a ≤ j) (hi : j + 1 ≤ i) (hl : i < xs.length) (hlt : Lt (kat xs (j + 1)) (kat xs j)) : Ins (sw xs (j + 1) j) a j i := by
  have hk : ∀ p, kat (sw xs (j + 1) j) p = if p = j then kat xs (j + 1) else if p = j + 1 then kat xs j else kat xs p := fun p => by
    unfold kat
    rw [pat_sw (by omega) (by omega)]
    split
    · rfl
    · split <;> rfl
  constructor
  · intro p q h1 h2 h3 h4 h5
    rw [hk, hk, if_neg h4, if_neg h5]
    by_cases hp : p = j + 1
    · rw [if_pos hp, if_neg (by omega)]
      exact h.1 j q ha (by omega) h3 (by omega) (by omega)
    · rw [if_neg hp]
      by_cases hq : q = j + 1
      · rw [if_pos hq]
        exact h.1 p j h1 (by omega) (by omega) hp (by omega)
      · rw [if_neg hq]
        exact h.1 p q h1 h2 h3 hp hq
  · intro q h1 h2
    rw [hk, hk, if_pos rfl, if_neg (by omega)]
    by_cases hq : q = j + 1
    · rw [if_pos hq]; exact hlt
    · rw [if_neg hq]; exact h.2 q (by omega) h2
end Go.Proofs.Ytchimfgbdfmegaa
/- The insertion sort of a stretch of a list of pairs. -/
namespace Go.Proofs.Ytchimfgbdfmegaa
open Go.RowKit Go.Lib
set_option linter.unusedVariables false
set_option maxRecDepth 100000
set_option linter.unusedSimpArgs false

def fn43 : Value := .func (.func 60) #[] #[]
/-- a stretch has been sorted -/
def SortPost (base g cap : Nat) (xs : List Pr) (a b : Nat) (w : World) (e : Ending) (w' : World) : Prop :=
  e = .returned (.tuple #[]) ∧ ∃ xs', Own base w' (.slice (some ⟨g, 0, none⟩) xs.length cap) xs' ∧ xs'.length = xs.length ∧ Stab xs xs' ∧ (∀ p, p < a ∨ b ≤ p → xs'[p]? = xs[p]?) ∧ Srt xs' a b ∧ Keep [g] w w'
/-- the four cells of two pairs of a row -/
theorem Own.two {base g cap n : Nat} {w : World} {xs : List Pr} (h : Own base w (.slice (some ⟨g, 0, none⟩) n cap) xs) (i : Nat) (hi : i < xs.length) :
    w.cell? ⟨g, i * 2, none⟩ = some (.string (pat xs i).1) ∧ w.cell? ⟨g, i * 2 + 1, none⟩ = some (.string (pat xs i).2) ∧ w.frozen? ⟨g, i * 2, none⟩ = false ∧ w.frozen? ⟨g, i * 2 + 1, none⟩ = false := by
  have hn : n = xs.length := by
    rcases h.2 with ⟨h1, h0⟩ | ⟨g', cap', cur, h1, _⟩
    · cases h1
    · simp at h1; exact h1.2.1
  subst hn
  have h' : w.ownsRow base 34 2 (.slice (some ⟨g, 0, none⟩) xs.length cap) xs.length (flat xs) := h
  have hf := flat_get xs i _ (pat_get hi)
  exact ⟨(h'.cellAt (i * 2) (by omega)).trans hf.1, (h'.cellAt (i * 2 + 1) (by omega)).trans hf.2, h'.frozenAt _, h'.frozenAt _⟩

theorem Own.swap {base g cap n : Nat} {w : World} {xs : List Pr} (h : Own base w (.slice (some ⟨g, 0, none⟩) n cap) xs) (i j : Nat) (hi : i < xs.length) (hj : j < xs.length) :
    Own base ((((w.setCell ⟨g, i * 2, none⟩ (.string (pat xs j).1)).setCell ⟨g, i * 2 + 1, none⟩ (.string (pat xs j).2)).setCell ⟨g, j * 2, none⟩ (.string (pat xs i).1)).setCell ⟨g, j * 2 + 1, none⟩ (.string (pat xs i).2)) (.slice (some ⟨g, 0, none⟩) n cap) (sw xs i j) := by
  have hn : n = xs.length := by
    rcases h.2 with ⟨h1, h0⟩ | ⟨g', cap', cur, h1, _⟩
    · cases h1
    · simp at h1; exact h1.2.1
  subst hn
  have h' : w.ownsRow base 34 2 (.slice (some ⟨g, 0, none⟩) xs.length cap) xs.length (flat xs) := h
  have h1 := (((h'.stored (i * 2) (.string (pat xs j).1)).1.stored (i * 2 + 1) (.string (pat xs j).2)).1.stored (j * 2) (.string (pat xs i).1)).1.stored (j * 2 + 1) (.string (pat xs i).2)
  have h2 := h1.1
  rw [flat_set xs i (pat xs j) hi, flat_set (xs.set i (pat xs j)) j (pat xs i) (by simpa using hj)] at h2
  unfold Own
  rw [sw_length]
  exact h2

set_option maxRecDepth 100000 in
set_option maxHeartbeats 8000000 in
theorem insertion (base g cap : Nat) (xs : List Pr) (a b : Nat) (w : World) (hO : Own base w (.slice (some ⟨g, 0, none⟩) xs.length cap) xs) (hab : a ≤ b) (hb : b ≤ xs.length) (hn : xs.length ≤ 1000) :
    Calls Try.prog 104 #[.slice (some ⟨g, 0, none⟩) xs.length cap, .int .i64 a, .int .i64 b, fn43] w (SortPost base g cap xs a b w) := by
  obtain ⟨N, hN⟩ : ∃ N, N = xs.length := ⟨_, rfl⟩
  rw [← hN] at hO hb hn ⊢
  have HN := Lib.hid hN
  clear hN
  unfold fn43
  go_enter Try.func104, Try.ntmps104
  have Ea : IntKind.i64.wrap ((a : Int) + 1) = ((a + 1 : Nat) : Int) := by rw [IntWalk.i64_in _ (by omega)]; omega
  go_wp2_with fail
  go_loopw [8] (fun i wr => ∃ (k : Nat) (ys : List Pr), i = .int .i64 k ∧ a + 1 ≤ k ∧ k ≤ 1001 ∧ Hid (ys.length = N) ∧ Hid (Stab xs ys) ∧ Hid (∀ p, p < a ∨ b ≤ p → ys[p]? = xs[p]?) ∧ Hid (Srt ys a k) ∧ Own base wr (.slice (some ⟨g, 0, none⟩) N cap) ys ∧ Keep [g] w wr) (fun i wr => b - (intOf i).toNat)
  case atStart => exact ⟨a + 1, xs, by go_num, by omega, by omega, Lib.hid HN.out.symm, Lib.hid (Stab.refl _), Lib.hid (fun _ _ => rfl), Lib.hid (fun p q h1 h2 h3 => by omega), hO, Keep.refl _ _⟩
  case round =>
    clear hO Ea
    obtain ⟨k, ys, rfl, hk, hk2, hL, hS, hU, hSrt, hO, hK⟩ := hrel
    by_cases hlt : k < b
    · go_wp2_with fail
      go_loopw [9] (fun j wr => ∃ (m : Nat) (ys : List Pr), j = .int .i64 m ∧ a ≤ m ∧ m ≤ k ∧ Hid (ys.length = N) ∧ Hid (Stab xs ys) ∧ Hid (∀ p, p < a ∨ b ≤ p → ys[p]? = xs[p]?) ∧ Hid (Ins ys a m k) ∧ Own base wr (.slice (some ⟨g, 0, none⟩) N cap) ys ∧ Keep [g] w wr) (fun j wr => (intOf j).toNat)
      case atStart => exact ⟨k, ys, rfl, by omega, by omega, hL, hS, hU, Lib.hid (ins_start hSrt.out), hO, hK⟩
      case round =>
        clear hL hS hU hSrt hO hK
        obtain ⟨m, ys, rfl, hm, hm2, hL, hS, hU, hI, hO, hK⟩ := hrel
        by_cases ham : a < m
        · obtain ⟨j, hj⟩ : ∃ j, m = j + 1 := ⟨m - 1, by omega⟩
          have hlen := hL.out
          obtain ⟨c0, c1, f0, f1⟩ := hO.two m (by omega)
          obtain ⟨d0, d1, e0, e1⟩ := hO.two j (by omega)
          have c0' : wr.drew.cell? ⟨g, m * 2, none⟩ = _ := c0
          have c1' : wr.drew.cell? ⟨g, m * 2 + 1, none⟩ = _ := c1
          have d0' : wr.drew.cell? ⟨g, j * 2, none⟩ = _ := d0
          have d1' : wr.drew.cell? ⟨g, j * 2 + 1, none⟩ = _ := d1
          have F1 : IntKind.i64.wrap ((m : Int) - 1) = (j : Int) := by rw [IntWalk.i64_in _ (by omega)]; omega
          have F2 : (m : Int) < (N : Int) := by omega
          have F3 : (j : Int) < (N : Int) := by omega
          have F4 : (a : Int) < (m : Int) := by omega
          have HJ := Lib.hid hj
          clear hj
          go_wp2_with fail
          go_still_tail 14, (by kernel_rfl)
          change wpList _ _ _ _ _ wr.drew
          have hOd : Own base wr.drew (.slice (some ⟨g, 0, none⟩) N cap) ys := hO
          have hKd : Keep [g] w wr.drew := hK.trans (Keep.of_below (Below.refl _ wr).drew)
          clear c0 c1 d0 d1 f0 f1 e0 e1 c0' c1' d0' d1' hO hK
          generalize wr.drew = wd at *
          go_wp2_with fail
          refine (cmp43 (pat ys m) (pat ys j) _).mono ?_
          rintro e w1 ⟨rfl, hb1⟩
          have hO1 : Own base w1 (.slice (some ⟨g, 0, none⟩) N cap) ys := own_keep hOd (Keep.of_below (X := []) hb1) (by simp)
          have hK1 : Keep [g] w w1 := hKd.trans (Keep.of_below hb1)
          clear hOd hKd hb1
          by_cases hcmp : cmpS (pat ys m).1 (pat ys j).1 < 0
          · obtain ⟨c0, c1, f0, f1⟩ := hO1.two m (by omega)
            obtain ⟨d0, d1, e0, e1⟩ := hO1.two j (by have := HJ.out; omega)
            have hsw := Lib.hid (hO1.swap m j (by omega) (by have := HJ.out; omega))
            have hKs := Lib.hid (((((hK1.trans (Keep.of_below (Below.refl _ w1).drew)).setCell (p := ⟨g, m * 2, none⟩) (by simp) (.string (pat ys j).1)).setCell (p := ⟨g, m * 2 + 1, none⟩) (by simp) (.string (pat ys j).2)).setCell (p := ⟨g, j * 2, none⟩) (by simp) (.string (pat ys m).1)).setCell (p := ⟨g, j * 2 + 1, none⟩) (by simp) (.string (pat ys m).2))
            have n1 : m * 2 ≠ j * 2 := by have := HJ.out; omega
            have n2 : m * 2 ≠ j * 2 + 1 := by have := HJ.out; omega
            have n3 : m * 2 + 1 ≠ j * 2 := by have := HJ.out; omega
            have n4 : m * 2 + 1 ≠ j * 2 + 1 := by have := HJ.out; omega
            have n5 := Ne.symm n1
            have n6 := Ne.symm n2
            have n7 := Ne.symm n3
            have n8 := Ne.symm n4
            have HC := Lib.hid hcmp
            clear hO1 hK1
            go_wp2_with fail
            go_region
            all_goals
              go_wp2_with fail
              have hj := HJ.out
              subst hj
              refine ⟨⟨j, sw ys (j + 1) j, rfl, by omega, by omega, Lib.hid (by rw [sw_length]; exact hL.out), Lib.hid (hS.out.trans (stab_sw (by omega) (Lt.ne HC.out))), Lib.hid (fun p hp => ?_), Lib.hid (ins_step hI.out (by omega) (by omega) (by omega) HC.out), hsw.out, hKs.out⟩, by simp [intOf]⟩
              rw [sw_get (by omega) (by omega)]
              exact hU.out p hp
          · have E1 : IntKind.i64.wrap ((k : Int) + 1) = ((k + 1 : Nat) : Int) := by rw [IntWalk.i64_in _ (by omega)]; omega
            have HC := Lib.hid hcmp
            have hge : 0 ≤ cmpS (pat ys m).1 (pat ys j).1 := by omega
            clear F1
            go_wp2_with fail
            refine ⟨⟨k + 1, ys, by go_num, by omega, by omega, hL, hS, hU, Lib.hid (ins_end hI.out (.inr ?_)), hO1, hK1⟩, by simp [intOf]; omega⟩
            have hj := HJ.out
            subst hj
            have hle : Le (pat ys j).1 (pat ys (j + 1)).1 := not_lt_le (by have := HC.out; omega)
            exact hle
        · have HM := Lib.hid (show m = a by omega)
          have E1 : IntKind.i64.wrap ((k : Int) + 1) = ((k + 1 : Nat) : Int) := by rw [IntWalk.i64_in _ (by omega)]; omega
          have F4 : ¬ ((a : Int) < (m : Int)) := by omega
          have F5 : ¬ (a < m) := ham
          have F6 : m ≤ a := by omega
          have hOd := Lib.hid (show Own base wr.drew (.slice (some ⟨g, 0, none⟩) N cap) ys from hO)
          have hKd := Lib.hid (show Keep [g] w wr.drew from hK.trans (Keep.of_below (Below.refl _ wr).drew))
          clear hO hK hm ham
          go_wp2_with fail
          have mixed : Try.prog.follows .mixedOrders = true := by kernel_rfl
          go_big_region_o
          clear mixed
          go_wp2_with fail
          exact ⟨⟨k + 1, ys, by go_num, by omega, by omega, hL, hS, hU, Lib.hid (ins_end hI.out (.inl (Nat.le_of_eq HM.out))), hOd.out, hKd.out⟩, by simp [intOf]; omega⟩
    · go_wp2_with fail
      go_end0
      refine ⟨rfl, ys, ?_, ?_, hS.out, hU.out, ?_, hK⟩
      · rw [← HN.out]; exact hO
      · rw [← HN.out]; exact hL.out
      · intro p q h1 h2 h3; exact hSrt.out p q h1 h2 (by omega)
end Go.Proofs.Ytchimfgbdfmegaa
/- What a sorted list with each key once, and its last value, is: there is just one. -/
namespace Go.Proofs.Ytchimfgbdfmegaa
open Go.Lib
set_option linter.unusedVariables false
set_option maxRecDepth 100000
set_option linter.unusedSimpArgs false

/-- each key is less than the next ones -/
def RisesL (R : List Pr) : Prop := R.Pairwise fun p q => Lt p.1 q.1
/-- the pairs with a key -/
def withKey (xs : List Pr) (k : ByteArray) : List Pr := xs.filter fun p => decide (p.1 = k)
/-- each key of xs once, with its last value -/
structure IsNorm (xs R : List Pr) : Prop where
  rises : RisesL R
  mem : ∀ p, p ∈ R ↔ (withKey xs p.1).getLast? = some p
theorem eq_of_rises : ∀ {R R' : List Pr}, RisesL R → RisesL R' → (∀ p, p ∈ R ↔ p ∈ R') → R = R'
  | [], [], _, _, _ => rfl
  | [], y :: r', _, _, h => absurd ((h y).2 (by simp)) (by simp)
  | x :: r, [], _, _, h => absurd ((h x).1 (by simp)) (by simp)
  | x :: r, y :: r', h1, h2, h => by
    unfold RisesL at h1 h2
    rw [List.pairwise_cons] at h1 h2
    have hxy : x = y := by
      rcases List.mem_cons.1 ((h x).1 (by simp)) with e | hx
      · exact e
      · rcases List.mem_cons.1 ((h y).2 (by simp)) with e | hy
        · exact e.symm
        · exact absurd rfl ((h2.1 x hx).trans (h1.1 y hy)).ne
    subst hxy
    congr 1
    refine eq_of_rises h1.2 h2.2 fun p => ⟨fun hp => ?_, fun hp => ?_⟩
    · rcases List.mem_cons.1 ((h p).1 (List.mem_cons_of_mem _ hp)) with e | h'
      · subst e; exact absurd rfl (h1.1 p hp).ne
      · exact h'
    · rcases List.mem_cons.1 ((h p).2 (List.mem_cons_of_mem _ hp)) with e | h'
      · subst e; exact absurd rfl (h2.1 p hp).ne
      · exact h'
theorem norm_unique {xs R R' : List Pr} (h : IsNorm xs R) (h' : IsNorm xs R') : R = R' :=
  eq_of_rises h.rises h'.rises fun p => (h.mem p).trans (h'.mem p).symm
theorem IsNorm.stab {xs ys R : List Pr} (h : IsNorm ys R) (hs : Stab xs ys) : IsNorm xs R :=
  ⟨h.rises, fun p => by rw [h.mem p]; unfold withKey; rw [hs p.1]⟩

/-- of a list whose keys do not fall: the last of each key -/
def dd : List Pr → List Pr
  | [] => []
  | [x] => [x]
  | x :: y :: r => if y.1 = x.1 then dd (y :: r) else x :: dd (y :: r)
theorem dd_cons (x : Pr) (r : List Pr) : dd (x :: r) = (if r = [] ∨ kat r 0 ≠ x.1 then [x] else []) ++ dd r := by
  cases r with
  | nil => simp [dd]
  | cons y r =>
    rw [dd]
    have : kat (y :: r) 0 = y.1 := rfl
    rw [this]
    by_cases h : y.1 = x.1 <;> simp [h]
theorem dd_mem {ys : List Pr} {p : Pr} (h : p ∈ dd ys) : p ∈ ys := by
  induction ys with
  | nil => simp [dd] at h
  | cons x r ih =>
    rw [dd_cons] at h
    rcases List.mem_append.1 h with h | h
    · split at h
      · simp at h; simp [h]
      · simp at h
    · exact List.mem_cons_of_mem _ (ih h)
theorem dd_norm {ys : List Pr} (h : ys.Pairwise fun p q => Le p.1 q.1) : IsNorm ys (dd ys) := by
  induction ys with
  | nil => exact ⟨List.Pairwise.nil, fun p => by simp [dd, withKey]⟩
  | cons x r ih =>
    rw [List.pairwise_cons] at h
    have ih := ih h.2
    cases r with
    | nil =>
      refine ⟨by simp [dd, RisesL], fun p => ?_⟩
      simp only [dd, List.mem_singleton, withKey]
      constructor
      · rintro rfl; simp
      · intro h
        by_cases e : x.1 = p.1
        · simp [e] at h; exact h.symm
        · simp [e] at h
    | cons y r =>
      have hp := List.pairwise_cons.1 h.2
      by_cases e : y.1 = x.1
      · have ed : dd (x :: y :: r) = dd (y :: r) := by rw [dd, if_pos e]
        rw [ed]
        refine ⟨ih.rises, fun p => ?_⟩
        rw [ih.mem p]
        have : (withKey (x :: y :: r) p.1).getLast? = (withKey (y :: r) p.1).getLast? := by
          by_cases ep : x.1 = p.1
          · have h1 : withKey (x :: y :: r) p.1 = x :: withKey (y :: r) p.1 := by simp [withKey, ep]
            have h2 : withKey (y :: r) p.1 = y :: withKey r p.1 := by simp [withKey, e, ep]
            rw [h1, h2]
            rw [List.getLast?_cons_cons]
          · have h1 : withKey (x :: y :: r) p.1 = withKey (y :: r) p.1 := by
              unfold withKey
              rw [List.filter_cons_of_neg (by simpa using ep)]
            rw [h1]
        rw [this]
      · have ed : dd (x :: y :: r) = x :: dd (y :: r) := by rw [dd, if_neg e]
        have hlt : ∀ q ∈ y :: r, Lt x.1 q.1 := by
          have hxy : Lt x.1 y.1 := by
            rcases (h.1 y (by simp)).lt_or_eq with h | h
            · exact h
            · exact absurd h.symm e
          intro q hq
          rcases List.mem_cons.1 hq with rfl | hq
          · exact hxy
          · exact hxy.trans_le (hp.1 q hq)
        rw [ed]
        refine ⟨?_, fun p => ?_⟩
        · unfold RisesL
          rw [List.pairwise_cons]
          exact ⟨fun q hq => hlt q (dd_mem hq), ih.rises⟩
        · by_cases ep : x.1 = p.1
          · have h2 : withKey (y :: r) p.1 = [] := by
              unfold withKey
              rw [List.filter_eq_nil_iff]
              intro q hq hqp
              simp at hqp
              exact (hlt q hq).ne (ep.trans hqp.symm)
            have h1 : withKey (x :: y :: r) p.1 = [x] := by
              have : withKey (x :: y :: r) p.1 = x :: withKey (y :: r) p.1 := by
                unfold withKey
                rw [List.filter_cons_of_pos (by simpa using ep)]
              rw [this, h2]
            rw [h1]
            simp only [List.mem_cons, List.getLast?_singleton, Option.some.injEq]
            constructor
            · rintro (rfl | hq)
              · rfl
              · exact absurd ep (hlt p (dd_mem hq)).ne
            · intro e; exact .inl e.symm
          · have h1 : withKey (x :: y :: r) p.1 = withKey (y :: r) p.1 := by
              unfold withKey
              rw [List.filter_cons_of_neg (by simpa using ep)]
            rw [h1, ← ih.mem p]
            simp only [List.mem_cons]
            constructor
            · rintro (rfl | hq)
              · exact absurd rfl ep
              · exact hq
            · exact .inr
theorem pairwise_of_srt {ys : List Pr} (h : Srt ys 0 ys.length) : ys.Pairwise fun p q => Le p.1 q.1 := by
  rw [List.pairwise_iff_getElem]
  intro i j hi hj hij
  have := h i j (Nat.zero_le _) hij hj
  unfold kat pat at this
  rw [List.getElem?_eq_getElem hi, List.getElem?_eq_getElem hj] at this
  exact this
end Go.Proofs.Ytchimfgbdfmegaa
/- Copies of lists; the stable sort of short lists. -/
namespace Go.Proofs.Ytchimfgbdfmegaa
open Go.RowKit Go.Lib
set_option linter.unusedVariables false
set_option maxRecDepth 100000
set_option linter.unusedSimpArgs false

theorem info33 : (Try.prog.info? 34).map (fun i => (i.zero, i.size, i.bytes)) = some (some (.agg #[.string ByteArray.empty, .string ByteArray.empty]), 2, 32) := by kernel_rfl
theorem flat_one (xs : List Pr) : ∀ u ∈ flat xs, u.oneCell' = true := by
  intro u hu
  unfold flat at hu
  obtain ⟨p, _, hp⟩ := List.mem_flatMap.1 hu
  simp at hp
  rcases hp with rfl | rfl <;> rfl
theorem addr_add (g off j : Nat) : (⟨g, off, none⟩ : Addr).add j = ⟨g, off + j, none⟩ := by unfold Addr.add; split <;> simp_all
/-- the cells of a slice of pairs, one by one -/
theorem Rd.cells {w : World} {g off : Nat} {xs : List Pr} (h : Rd w (some ⟨g, off, none⟩) xs) : ∀ j u, (flat xs)[j]? = some u → w.cell? ((⟨g, off, none⟩ : Addr).add j) = some u := by
  intro j u hj
  rw [addr_add]
  have hl := (List.getElem?_eq_some_iff.1 hj).1
  rw [flat_length] at hl
  have hp := pat_get (xs := xs) (p := j / 2) (by omega)
  obtain ⟨g', off', e, h1, h2⟩ := h (j / 2) _ hp
  simp at e
  obtain ⟨rfl, rfl⟩ := e
  have hf := flat_get xs (j / 2) _ hp
  rcases Nat.mod_two_eq_zero_or_one j with hm | hm
  · have ej : j / 2 * 2 = j := by omega
    rw [ej] at h1 hf
    rw [hj] at hf
    rw [h1, hf.1]
  · have ej : j / 2 * 2 + 1 = j := by omega
    rw [Nat.add_assoc, ej] at h2
    rw [ej] at hf
    rw [hj] at hf
    rw [h2, hf.2]
theorem Rd.starts {w : World} {A : Option Addr} {xs : List Pr} (h : Rd w A xs) (hx : 0 < xs.length) : ∃ g off, A = some ⟨g, off, none⟩ := by
  obtain ⟨g, off, e, _⟩ := h 0 _ (pat_get hx)
  exact ⟨g, off, e⟩

/-- a list in memory of its own -/
def NewList (xs : List Pr) (w : World) (e : Ending) (w' : World) : Prop := ∃ v, e = .returned v ∧ Own w.heap.size w' v xs ∧ Below w.heap.size w w'
theorem own_lit (w : World) : Own w.heap.size (w.alloc (.cells #[] 34)) (.slice (some ⟨w.heap.size, 0, none⟩) 0 0) [] :=
  World.ownsRow_lit w #[] 0 (Nat.le_refl _) (Nat.zero_le _) rfl

set_option maxHeartbeats 2000000 in
theorem clone_any (g off c : Nat) (xs : List Pr) (w : World) (hR : Rd w (some ⟨g, off, none⟩) xs) (hn : xs.length ≤ 1000) :
    Calls Try.prog 58 #[.slice (some ⟨g, off, none⟩) xs.length c] w fun e w' => ∃ g' c', e = .returned (.slice (some ⟨g', 0, none⟩) xs.length c') ∧ Own w.heap.size w' (.slice (some ⟨g', 0, none⟩) xs.length c') xs ∧ Below w.heap.size w w' := by
  obtain ⟨i0, hi, hz0, hz1, hz2⟩ := info_parts info33
  have hR1 := hR.below ((Below.refl _ w).alloc (Nat.le_refl _) (.cells #[] 34))
  have hlit := own_lit w
  have hnl := fun w => run_eql_slice_nil (P := Try.prog) w 64 34 (some ⟨g, off, none⟩) xs.length c 0 0 Try.underlying64
  go_enter Try.func58, Try.ntmps58
  go_wp2_with (at_builtin; refine wpList_append_own _ rfl _ _ 64 rfl w.heap.size 34 i0 _ 2 32 Try.underlying64 hi hz0 hz1 hz2 rfl (by decide) _ _ _ rfl hlit ⟨g, off, none⟩ xs.length c (flat xs) rfl (flat_length xs) hR1.cells (flat_one xs) (by unfold maxLen; simp; omega) (by simp; omega) (by simp) ?_; intro v' wa hown' hgrow hnil)
  go_ret
  have hB : Below w.heap.size w wa := ((Below.refl _ w).alloc (Nat.le_refl _) _).grown hgrow (by simp) (own_ge hlit)
  have hO : Own w.heap.size wa v' xs := by
    unfold Own
    have e : flat [] = [] := rfl
    rw [e] at hown'
    simpa using hown'
  rcases hO.2 with ⟨h1, h0⟩ | ⟨g', cap', cur, h1, _⟩
  · have := (hnil.1 h1).1
    cases this
  · subst h1
    exact ⟨g', cap', rfl, hO, hB⟩
/-- a row of n pairs is sorted, equal keys in their order -/
def SortsAt (n : Nat) : Prop := ∀ (base g cap : Nat) (xs : List Pr) (w : World), xs.length = n → Own base w (.slice (some ⟨g, 0, none⟩) n cap) xs →
  Calls Try.prog 88 #[.slice (some ⟨g, 0, none⟩) n cap, .int .i64 n, fn43] w (SortPost base g cap xs 0 n w)
set_option maxHeartbeats 2000000 in
theorem sorts_short (n : Nat) (h : n < 20) : SortsAt n := by
  intro base g cap xs w hxs hO
  subst hxs
  have F1 : ¬ ((20 : Int) ≤ (xs.length : Int)) := by omega
  have F2 : ¬ ((20 : Int) < (xs.length : Int)) := by omega
  go_enter Try.func88, Try.ntmps88
  go_wp2_with fail
  refine wp_loop_rounds 1 ?_
  rw [rounds_succ]
  go_wp2_with fail
  refine (insertion base g cap xs 0 xs.length w hO (Nat.zero_le _) (Nat.le_refl _) (by omega)).mono ?_
  rintro e w1 ⟨rfl, ys, hO1, hl, hS, hU, hSrt, hK⟩
  go_wp2_with fail
  refine wp_loop_rounds 1 ?_
  rw [rounds_succ]
  go_wp2_with fail
  go_end0
  exact ⟨rfl, ys, hO1, hl, hS, hU, hSrt, hK⟩
set_option maxHeartbeats 2000000 in
theorem sortStable (n : Nat) (hs : SortsAt n) (base g cap : Nat) (xs : List Pr) (w : World) (hxs : xs.length = n) (hO : Own base w (.slice (some ⟨g, 0, none⟩) n cap) xs) :
    Calls Try.prog 59 #[.slice (some ⟨g, 0, none⟩) n cap, fn43] w (SortPost base g cap xs 0 n w) := by
  unfold fn43
  go_enter Try.func59, Try.ntmps59
  go_wp2_with fail
  refine (hs base g cap xs w hxs hO).mono ?_
  rintro e w1 ⟨rfl, h⟩
  go_wp2_with fail
  go_end0
  exact ⟨rfl, h⟩
end Go.Proofs.Ytchimfgbdfmegaa
/- Sorted, of lists of a length at which the stable sort does what it should. -/
namespace Go.Proofs.Ytchimfgbdfmegaa
open Go.RowKit Go.Lib
set_option linter.unusedVariables false
set_option maxRecDepth 100000
set_option linter.unusedSimpArgs false


theorem kat_drop (ys : List Pr) (j : Nat) : kat (ys.drop j) 0 = kat ys j := by simp [kat, pat]
theorem dd_step (ys : List Pr) (j : Nat) (h : j < ys.length) : dd (ys.drop j) = (if j + 1 = ys.length ∨ kat ys (j + 1) ≠ kat ys j then [pat ys j] else []) ++ dd (ys.drop (j + 1)) := by
  have e : ys.drop j = pat ys j :: ys.drop (j + 1) := by
    rw [List.drop_eq_getElem_cons h]
    simp [pat, h]
  rw [e, dd_cons, kat_drop]
  congr 1
  have : (ys.drop (j + 1) = []) ↔ j + 1 = ys.length := by
    rw [List.drop_eq_nil_iff]; omega
  simp only [this]
  rfl

theorem cell_two_new (w : World) (x y : Value) (t : TypeId) : ∀ j u, [x, y][j]? = some u → (w.alloc (.cells #[x, y] t)).cell? ((⟨w.heap.size, 0, none⟩ : Addr).add j) = some u := by
  intro j u h
  rw [addr_add, Nat.zero_add, (Blk.new w t #[x, y]).cell j]
  simpa using h
theorem flat_snoc (R : List Pr) (p : Pr) : flat (R ++ [p]) = flat R ++ [.string p.1, .string p.2] := by simp [flat]
theorem flat_cell (p : Pr) : ∀ u ∈ [Value.string p.1, Value.string p.2], u.oneCell' = true := by simp [Value.oneCell']
/-- one pair more behind a list of one's own -/
theorem Own.snoc {base : Nat} {w : World} {v : Value} {R : List Pr} {p : Pr} (h : w.ownsRow base 34 2 v (R.length + 1) (flat R ++ [.string p.1, .string p.2])) : Own base w v (R ++ [p]) := by
  unfold Own
  rw [flat_snoc, List.length_append]
  exact h

set_option maxRecDepth 100000 in
set_option maxHeartbeats 8000000 in
theorem sorted_of (n : Nat) (hs : SortsAt n) (g off c : Nat) (xs : List Pr) (w : World) (hR : Rd w (some ⟨g, off, none⟩) xs) (hxs : xs.length = n) (hn : n ≤ 1000) :
    Calls Try.prog 29 #[.slice (some ⟨g, off, none⟩) n c] w fun e w' => ∃ v R, e = .returned v ∧ Own w.heap.size w' v R ∧ IsNorm xs R ∧ Below w.heap.size w w' := by
  obtain ⟨i0, hi, hz0, hz1, hz2⟩ := info_parts info33
  go_enter Try.func29, Try.ntmps29
  go_wp2_with fail
  subst hxs
  refine (clone_any g off c xs w hR hn).mono ?_
  rintro e w1 ⟨ga, ca, rfl, hO1, hB1⟩
  obtain ⟨n, hxs⟩ : ∃ n, n = xs.length := ⟨_, rfl⟩
  rw [← hxs] at hs hn hO1 ⊢
  have HX := Lib.hid hxs
  clear hxs hR
  go_wp2_with fail
  refine (sortStable n hs w.heap.size ga ca xs w1 HX.out.symm hO1).mono ?_
  rintro e w2 ⟨rfl, ys, hO2, hl, hSt, -, hSrt, hK⟩
  rw [← HX.out] at hO2 hl
  have gge : w.heap.size ≤ ga := own_ge hO1 ga rfl
  have hB2 : Below w.heap.size w w2 := hB1.trans (hK.below hB1.size (by simp; exact gge))
  have HL := Lib.hid hl
  have HS := Lib.hid hSt
  have HSr := Lib.hid hSrt
  clear hO1 hB1 hK hl hSt hSrt hs
  go_wp2_with fail
  go_loopw [4, 13] (fun v i wr => ∃ (j : Nat) (R : List Pr), j ≤ n ∧ i = .int .i64 j ∧ Hid (R ++ dd (ys.drop j) = dd ys) ∧ Hid (R.length ≤ j) ∧ Own w.heap.size wr v R ∧ Own w.heap.size wr (.slice (some ⟨ga, 0, none⟩) n ca) ys ∧ Hid (v.ownBlock ≠ some ga) ∧ Below w.heap.size w wr) (fun v i wr => n - (intOf i).toNat)
  case atStart => exact ⟨0, [], by omega, rfl, Lib.hid rfl, Lib.hid (by simp), World.ownsRow_nil _ _ _ _, hO2, Lib.hid (by simp [Value.ownBlock]), hB2⟩
  case round =>
    clear hO2 hB2
    obtain ⟨j, R, hj, rfl, hR, hRl, hO, hA, hne, hB⟩ := hrel
    by_cases hlt : j < n
    · have hlen := HL.out
      obtain ⟨c0, c1, f0, f1⟩ := hA.two j (by omega)
      have hds := Lib.hid (dd_step ys j (by omega))
      obtain ⟨J, hJ⟩ : ∃ J, J = j + 1 := ⟨_, rfl⟩
      have F1 : IntKind.i64.wrap ((j : Int) + 1) = (J : Int) := by rw [IntWalk.i64_in _ (by omega)]; omega
      have HJ := Lib.hid hJ
      clear hJ f0 f1
      go_upto_region 7 with (fail)
      have hbox := Blk.new wr 34 #[.string (pat ys j).1, .string (pat ys j).2]
      have hO3 : Own w.heap.size (wr.alloc (.cells #[.string (pat ys j).1, .string (pat ys j).2] 34)) u4 R := World.ownsRow.alloc hO _
      have hA3 : Own w.heap.size (wr.alloc (.cells #[.string (pat ys j).1, .string (pat ys j).2] 34)) (.slice (some ⟨ga, 0, none⟩) n ca) ys := World.ownsRow.alloc hA _
      have hB3 := hB.alloc hB.size (.cells #[.string (pat ys j).1, .string (pat ys j).2] 34)
      generalize wr.alloc (.cells #[.string (pat ys j).1, .string (pat ys j).2] 34) = W at *
      generalize wr.heap.size = Bx at *
      have b0 : W.cell? ⟨Bx, 0, none⟩ = some (.string (pat ys j).1) := hbox.cell 0
      have b1 : W.cell? ⟨Bx, 1, none⟩ = some (.string (pat ys j).2) := hbox.cell 1
      clear hO hA hB c0 c1 hbox
      by_cases hJn : J = n
      · have F2 : ((J : Int) == (n : Int)) = true := by rw [beq_iff_eq]; omega
        have HJn := Lib.hid hJn
        clear hJn
        go_wp2_with fail
        go_quiet (fail)
        generalize hWd : W.drewN nq = Wd
        have hO4 : Own w.heap.size Wd u4 R := by rw [← hWd]; exact hO3
        have hA4 : Own w.heap.size Wd (.slice (some ⟨ga, 0, none⟩) n ca) ys := by rw [← hWd]; exact hA3
        have hB4 : Below w.heap.size w Wd := by rw [← hWd]; exact ⟨hB3.os, hB3.tape, hB3.output, hB3.size, hB3.block⟩
        have b0' : Wd.cell? ⟨Bx, 0, none⟩ = some (.string (pat ys j).1) := by rw [← hWd]; exact b0
        have b1' : Wd.cell? ⟨Bx, 1, none⟩ = some (.string (pat ys j).2) := by rw [← hWd]; exact b1
        clear hWd hO3 hA3 hB3 b0 b1
        have hRl' := hRl.out
        have hrow : Wd.ownsRow w.heap.size 34 2 u4 R.length (flat R) := hO4
        go_wp2_with (at_builtin; refine wpList_append_own_at _ rfl _ _ 64 rfl w.heap.size 34 i0 _ 2 32 Try.underlying64 hi hz0 hz1 hz2 rfl (by decide) _ _ _ rfl (hrow.alloc _) ⟨Wd.heap.size, 0, none⟩ 1 1 [.string (pat ys j).1, .string (pat ys j).2] rfl rfl (cell_two_new _ _ _ _) (flat_cell (pat ys j)) (by unfold maxLen; omega) (by omega) (by have := hB4.size; simp; omega) ?_; intro v' wa hown' hgrow hnil hloc)
        have hB5 : Below w.heap.size w wa := (hB4.alloc hB4.size _).grown hgrow (by have := hB4.size; simp; omega) (own_ge hO4)
        have hA5 : Own w.heap.size wa (.slice (some ⟨ga, 0, none⟩) n ca) ys := World.ownsRow.kept (World.ownsRow.alloc hA4 _) hgrow (.inr (Ne.symm hne.out))
        have hga := (World.ownsRow.lt hA4 ga rfl).2
        have hne' : v'.ownBlock ≠ some ga := by
          rcases hloc with h | h
          · rw [h]; exact hne.out
          · rw [h]; simp; omega
        have e1 := HJ.out
        subst e1
        refine ⟨⟨j + 1, R ++ [pat ys j], by omega, by go_num, Lib.hid ?_, Lib.hid (by simp; omega), Own.snoc hown', hA5, Lib.hid hne', hB5⟩, by simp [intOf]; omega⟩
        rw [← hR.out, hds.out, if_pos (.inl (by rw [HL.out]; exact HJn.out)), List.append_assoc]
      · have F2 : ((J : Int) == (n : Int)) = false := by rw [beq_eq_false_iff_ne]; omega
        have F3 : (J : Int) < (n : Int) := by have := HJ.out; omega
        obtain ⟨c0, c1, f0, f1⟩ := hA3.two J (by omega)
        have HJn := Lib.hid hJn
        clear hJn f0 f1
        by_cases hk : (pat ys J).1 = (pat ys j).1
        · have F5 : ((pat ys J).1.toList == (pat ys j).1.toList) = true := by rw [hk]; simp
          have HK := Lib.hid hk
          clear hk
          go_wp2_with fail
          go_quiet (fail)
          generalize hWd : W.drewN nq = Wd
          have hO4 : Own w.heap.size Wd u4 R := by rw [← hWd]; exact hO3
          have hA4 : Own w.heap.size Wd (.slice (some ⟨ga, 0, none⟩) n ca) ys := by rw [← hWd]; exact hA3
          have hB4 : Below w.heap.size w Wd := by rw [← hWd]; exact ⟨hB3.os, hB3.tape, hB3.output, hB3.size, hB3.block⟩
          clear hWd hO3 hA3 hB3 b0 b1 c0 c1 F5
          go_wp2_with fail
          have e1 := HJ.out
          subst e1
          refine ⟨⟨j + 1, R, by omega, by go_num, Lib.hid ?_, Lib.hid (by have := hRl.out; omega), hO4, hA4, hne, hB4⟩, by simp [intOf]; omega⟩
          rw [← hR.out, hds.out, if_neg]
          · simp
          · rintro (h | h)
            · rw [HL.out] at h; exact HJn.out h
            · exact h HK.out
        · have F5 : ((pat ys J).1.toList == (pat ys j).1.toList) = false := by rw [beq_eq_false_iff_ne]; intro h; exact hk (bytes_ext (by rw [ByteArray.toList_eq, ByteArray.toList_eq] at h; exact h))
          have HK := Lib.hid hk
          have HKn : Hid (kat ys (j + 1) ≠ kat ys j) := Lib.hid (by have e1 := HJ.out; subst e1; exact hk)
          clear hk c0 c1
          obtain ⟨c0, c1, -, -⟩ := hA3.two J (by omega)
          go_wp2_with fail
          go_quiet (fail)
          generalize hWd : W.drewN nq = Wd
          have hO4 : Own w.heap.size Wd u4 R := by rw [← hWd]; exact hO3
          have hA4 : Own w.heap.size Wd (.slice (some ⟨ga, 0, none⟩) n ca) ys := by rw [← hWd]; exact hA3
          have hB4 : Below w.heap.size w Wd := by rw [← hWd]; exact ⟨hB3.os, hB3.tape, hB3.output, hB3.size, hB3.block⟩
          have b0' : Wd.cell? ⟨Bx, 0, none⟩ = some (.string (pat ys j).1) := by rw [← hWd]; exact b0
          have b1' : Wd.cell? ⟨Bx, 1, none⟩ = some (.string (pat ys j).2) := by rw [← hWd]; exact b1
          clear hWd hO3 hA3 hB3 b0 b1
          have hRl' := hRl.out
          have hrow : Wd.ownsRow w.heap.size 34 2 u4 R.length (flat R) := hO4
          go_wp2_with (at_builtin; refine wpList_append_own_at _ rfl _ _ 64 rfl w.heap.size 34 i0 _ 2 32 Try.underlying64 hi hz0 hz1 hz2 rfl (by decide) _ _ _ rfl (hrow.alloc _) ⟨Wd.heap.size, 0, none⟩ 1 1 [.string (pat ys j).1, .string (pat ys j).2] rfl rfl (cell_two_new _ _ _ _) (flat_cell (pat ys j)) (by unfold maxLen; omega) (by omega) (by have := hB4.size; simp; omega) ?_; intro v' wa hown' hgrow hnil hloc)
          have hB5 : Below w.heap.size w wa := (hB4.alloc hB4.size _).grown hgrow (by have := hB4.size; simp; omega) (own_ge hO4)
          have hA5 : Own w.heap.size wa (.slice (some ⟨ga, 0, none⟩) n ca) ys := World.ownsRow.kept (World.ownsRow.alloc hA4 _) hgrow (.inr (Ne.symm hne.out))
          have hga := (World.ownsRow.lt hA4 ga rfl).2
          have hne' : v'.ownBlock ≠ some ga := by
            rcases hloc with h | h
            · rw [h]; exact hne.out
            · rw [h]; simp; omega
          have e1 := HJ.out
          subst e1
          refine ⟨⟨j + 1, R ++ [pat ys j], by omega, by go_num, Lib.hid ?_, Lib.hid (by simp; omega), Own.snoc hown', hA5, Lib.hid hne', hB5⟩, by simp [intOf]; omega⟩
          rw [← hR.out, hds.out, if_pos (.inr HKn.out), List.append_assoc]
    · go_wp2_with fail
      go_ret
      have hR' := hR.out
      rw [List.drop_of_length_le (by rw [HL.out]; omega)] at hR'
      simp [dd] at hR'
      refine ⟨_, dd ys, rfl, hR' ▸ hO, (dd_norm (pairwise_of_srt ?_)).stab HS.out, hB⟩
      rw [HL.out]; exact HSr.out
end Go.Proofs.Ytchimfgbdfmegaa
/- Same of package pair and of its reference: whether two lists are equal. -/
namespace Go.Proofs.Ytchimfgbdfmegaa
open Go.RowKit Go.Lib
set_option linter.unusedVariables false
set_option maxRecDepth 100000
set_option linter.unusedSimpArgs false
/-- whether two pairs are one -/
def peq (p q : Pr) : Bool := decide (p = q)
theorem peq_bytes (p q : Pr) : peq p q = (p.1.toList == q.1.toList && p.2.toList == q.2.toList) := by
  unfold peq
  rw [Bool.eq_iff_iff]
  simp only [decide_eq_true_eq, Bool.and_eq_true, beq_iff_eq, ByteArray.toList_eq]
  constructor
  · rintro rfl; exact ⟨rfl, rfl⟩
  · rintro ⟨h1, h2⟩; exact Prod.ext (bytes_ext h1) (bytes_ext h2)
set_option maxHeartbeats 1000000 in
theorem eq33 (p q : Pr) (d : Nat) (w : World) : (Op.equalIn (d + 2) 34 (.agg #[.string p.1, .string p.2]) (.agg #[.string q.1, .string q.2])).run Try.prog w = .ok (peq p q) w := by
  have u9 := Try.underlying9
  have hS : Try.prog.underlying 34 = some (.struct (Try.prog.fieldsOf 34)) := by kernel_rfl
  have hp : Try.prog.stoodInHeld 34 = false := by kernel_rfl
  rw [run_equalIn_struct w (d + 1) 34 _ _ hS hp]
  simp only [Program.fieldsOf, Try.underlying34]
  go_simp
  rw [peq_bytes]
  by_cases h1 : p.1.toList = q.1.toList <;> by_cases h2 : p.2.toList = q.2.toList <;> simp [h1, h2]
set_option maxHeartbeats 1000000 in
theorem eq40 (p q : Pr) (d : Nat) (w : World) : (Op.equalIn (d + 2) 45 (.agg #[.string p.1, .string p.2]) (.agg #[.string q.1, .string q.2])).run Try.prog w = .ok (peq p q) w := by
  have u9 := Try.underlying9
  have hS : Try.prog.underlying 45 = some (.struct (Try.prog.fieldsOf 45)) := by kernel_rfl
  have hp : Try.prog.stoodInHeld 45 = false := by kernel_rfl
  rw [run_equalIn_struct w (d + 1) 45 _ _ hS hp]
  simp only [Program.fieldsOf, Try.underlying45]
  go_simp
  rw [peq_bytes]
  by_cases h1 : p.1.toList = q.1.toList <;> by_cases h2 : p.2.toList = q.2.toList <;> simp [h1, h2]
theorem neq33 (p q : Pr) (w : World) : (binOp .neq 34 (.agg #[.string p.1, .string p.2]) (.agg #[.string q.1, .string q.2])).run Try.prog w = .ok (.bool (!peq p q)) w := by
  rw [run_neq_struct, show (10000 : Nat) = 9998 + 2 from rfl, eq33 p q 9998 w]; rfl
theorem neq40 (p q : Pr) (w : World) : (binOp .neq 45 (.agg #[.string p.1, .string p.2]) (.agg #[.string q.1, .string q.2])).run Try.prog w = .ok (.bool (!peq p q)) w := by
  rw [run_neq_struct, show (10000 : Nat) = 9998 + 2 from rfl, eq40 p q 9998 w]; rfl
/-- whether two lists are one -/
def leq (xs ys : List Pr) : Bool := decide (xs = ys)
theorem leq_step {xs ys : List Pr} {k : Nat} (hl : xs.length = ys.length) (hk : k < xs.length) (h : xs.take k = ys.take k) (he : peq (pat xs k) (pat ys k) = true) : xs.take (k + 1) = ys.take (k + 1) := by
  unfold peq at he
  have he := of_decide_eq_true he
  rw [List.take_succ_eq_append_getElem hk, List.take_succ_eq_append_getElem (by omega : k < ys.length), h]
  unfold pat at he
  rw [List.getElem?_eq_getElem hk, List.getElem?_eq_getElem (by omega : k < ys.length)] at he
  simp at he
  rw [he]
theorem leq_no {xs ys : List Pr} {k : Nat} (he : peq (pat xs k) (pat ys k) = false) : leq xs ys = false := by
  unfold leq peq at *
  rw [decide_eq_false_iff_not] at *
  rintro rfl; exact he rfl
theorem Rd.at {w : World} {A : Option Addr} {xs : List Pr} (h : Rd w A xs) (k : Nat) (hk : k < xs.length) : ∃ g off, A = some ⟨g, off, none⟩ ∧ w.cell? ⟨g, off + k * 2, none⟩ = some (.string (pat xs k).1) ∧ w.cell? ⟨g, off + k * 2 + 1, none⟩ = some (.string (pat xs k).2) := h k _ (pat_get hk)
theorem Rd.drewN {w : World} {A : Option Addr} {xs : List Pr} (h : Rd w A xs) (n : Nat) : Rd (w.drewN n) A xs := h

set_option maxRecDepth 100000 in
set_option maxHeartbeats 4000000 in
theorem refSame_any (A B : Option Addr) (ca cb : Nat) (xs ys : List Pr) (w : World) (hA : Rd w A xs) (hB : Rd w B ys) (hn : xs.length ≤ 1000) (hm : ys.length ≤ 1000) :
    Calls Try.prog 32 #[.slice A xs.length ca, .slice B ys.length cb] w fun e w' => e = .returned (.bool (leq xs ys)) ∧ ∃ n, w' = w.drewN n := by
  obtain ⟨n, hxs⟩ : ∃ n, n = xs.length := ⟨_, rfl⟩
  obtain ⟨m, hys⟩ : ∃ m, m = ys.length := ⟨_, rfl⟩
  have hneq := fun p q w => neq40 p q w
  rw [← hxs, ← hys]
  rw [← hxs] at hn
  rw [← hys] at hm
  have HX := Lib.hid hxs
  have HY := Lib.hid hys
  have HA := Lib.hid hA
  have HB := Lib.hid hB
  clear hxs hys hA hB
  by_cases hnm : n = m
  · subst hnm
    go_enter Try.func32, Try.ntmps32
    go_wp2_with fail
    go_loopw [13] (fun i wr => ∃ k : Nat, k ≤ n ∧ i = .int .i64 k ∧ Hid (xs.take k = ys.take k) ∧ ∃ q, wr = w.drewN q) (fun i wr => n - (intOf i).toNat)
    case atStart => exact ⟨0, by omega, rfl, Lib.hid rfl, 0, rfl⟩
    case round =>
      obtain ⟨k, hk, rfl, hE, q, rfl⟩ := hrel
      by_cases hlt : k < n
      · obtain ⟨ga, oa, rfl, a0, a1⟩ := (HA.out.drewN q).at k (by rw [← HX.out]; exact hlt)
        obtain ⟨gb, ob, rfl, b0, b1⟩ := (HB.out.drewN q).at k (by rw [← HY.out]; exact hlt)
        have hd : ∀ k, (w.drewN q).drewN k = w.drewN (q + k) := fun k => by simp [World.drewN, Nat.add_assoc]
        generalize hW : w.drewN q = W at *
        have HW := Lib.hid hW
        have HD := Lib.hid hd
        clear hd hW
        cases he : peq (pat xs k) (pat ys k) with
        | true =>
          have S := Lib.hid (leq_step (by rw [← HX.out, ← HY.out]) (by rw [← HX.out]; exact hlt) hE.out he)
          have hq := hneq (pat xs k) (pat ys k)
          rw [he] at hq
          clear hneq he
          go_wp2_with fail
          go_quiet (fail)
          go_wp2_with fail
          exact ⟨⟨k + 1, by omega, by go_num, S, q + nq, HD.out nq⟩, by simp [intOf]; omega⟩
        | false =>
          have S := Lib.hid (leq_no he)
          have hq := hneq (pat xs k) (pat ys k)
          rw [he] at hq
          clear hneq he
          go_wp2_with fail
          go_quiet (fail)
          go_wp2_with fail
          go_ret
          rw [S.out]
          exact ⟨rfl, q + nq, HD.out nq⟩
      · obtain rfl : k = n := by omega
        go_wp2_with fail
        go_ret
        have h := hE.out
        have : leq xs ys = true := by
          unfold leq
          rw [List.take_of_length_le (by rw [← HX.out]; omega), List.take_of_length_le (by rw [← HY.out]; omega)] at h
          simp [h]
        rw [this]
        exact ⟨rfl, q, rfl⟩
  · have : leq xs ys = false := by
      unfold leq
      rw [decide_eq_false_iff_not]
      rintro rfl; exact hnm (HX.out.trans HY.out.symm)
    rw [this]
    have F1 : ¬ ((n : Int) = (m : Int)) := by omega
    go_enter Try.func32, Try.ntmps32
    go_wp2_with fail
    go_ret
    exact ⟨rfl, 0, rfl⟩
end Go.Proofs.Ytchimfgbdfmegaa
