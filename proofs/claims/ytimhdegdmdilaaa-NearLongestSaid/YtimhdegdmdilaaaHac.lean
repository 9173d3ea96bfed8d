/- Pairs in memory; what comparing two keys returns; the functions by which lists of pairs are sorted and searched. -/
import Derived.Test.YtimhdegdmdilaaaHab
import Derived.Lib.Bytealg
import Derived.Laws.Externs
import Derived.StillTailTactics
import Derived.Deep.DeepCutAuto
import Derived.Shelf.RegionOpen
import Derived.Shelf.RegionOpenPlain
import Derived.Laws.AppendOwnNone
import Derived.Lib.SliceRun
import Derived.Deep.QuietTactic
import Derived.BigQuiet
import Derived.Laws.Strings
import Derived.Laws.StructEq
namespace Go.Proofs.Ytimhdegdmdilaaa
open Go.RowKit Go.Lib
set_option linter.unusedVariables false
set_option maxRecDepth 100000
set_option maxRecDepth 100000
set_option linter.unusedSimpArgs false
set_option linter.unnecessarySimpa false

/-- how two keys compare -/
def cmpS (a b : ByteArray) : Int := compareBytes a.data.toList b.data.toList
theorem bcompare (a b : ByteArray) (w : World) : Calls Try.prog 117 #[.string a, .string b] w fun e w' => e = .returned (.int .i64 (cmpS a b)) ∧ w = w' := by
  go_enter Try.func117, Try.ntmps117
  go_wp2
  rw [run_callFunc_extern Try.func123 (by kernel_rfl) (by kernel_rfl) (by kernel_rfl) (e := Extern.BytealgCompare.compare) (by kernel_rfl), run_compareString]
  go_wp2
  go_ret
  exact ⟨rfl, rfl⟩
theorem compare (a b : ByteArray) (w : World) : Calls Try.prog 108 #[.string a, .string b] w fun e w' => e = .returned (.int .i64 (cmpS a b)) ∧ w = w' := by
  go_enter Try.func108, Try.ntmps108
  go_wp2_with (go_at_call 117; refine (bcompare a b _).mono ?_; rintro e w' ⟨rfl, rfl⟩)
  go_ret
  exact ⟨rfl, rfl⟩
/-- a key and its value -/
abbrev Pr := ByteArray × ByteArray
/-- a pair as a value -/
def Pr.v (p : Pr) : Value := .agg #[.string p.1, .string p.2]
/-- pairs as the cells of a row -/
def flat (xs : List Pr) : List Value := xs.flatMap fun p => [.string p.1, .string p.2]
theorem flat_length (xs : List Pr) : (flat xs).length = xs.length * 2 := by
  induction xs with
  | nil => rfl
  | cons x xs ih => simp only [flat, List.flatMap_cons, List.length_append, List.length_cons, List.length_nil] at *; omega
theorem flat_append (xs ys : List Pr) : flat (xs ++ ys) = flat xs ++ flat ys := by simp [flat]
theorem flat_get (xs : List Pr) (j : Nat) (p : Pr) (h : xs[j]? = some p) : (flat xs)[j * 2]? = some (.string p.1) ∧ (flat xs)[j * 2 + 1]? = some (.string p.2) := by
  induction xs generalizing j with
  | nil => simp at h
  | cons x xs ih =>
    cases j with
    | zero => simp at h; subst h; simp [flat]
    | succ j =>
      simp at h
      have := ih j h
      rw [show (j + 1) * 2 = j * 2 + 2 by omega, show j * 2 + 2 + 1 = (j * 2 + 1) + 2 by omega]
      simpa [flat] using this
theorem flat_set (xs : List Pr) (j : Nat) (p : Pr) (h : j < xs.length) : ((flat xs).set (j * 2) (.string p.1)).set (j * 2 + 1) (.string p.2) = flat (xs.set j p) := by
  induction xs generalizing j with
  | nil => simp at h
  | cons x xs ih =>
    cases j with
    | zero => simp [flat]
    | succ j =>
      have := ih j (by simpa using h)
      rw [show (j + 1) * 2 = j * 2 + 2 by omega, show j * 2 + 2 + 1 = (j * 2 + 1) + 2 by omega]
      simpa [flat] using this

/-- the slice that begins at A has these pairs -/
def Rd (w : World) (A : Option Addr) (xs : List Pr) : Prop :=
  ∀ j p, xs[j]? = some p → ∃ g off, A = some ⟨g, off, none⟩ ∧ w.cell? ⟨g, off + j * 2, none⟩ = some (.string p.1) ∧ w.cell? ⟨g, off + j * 2 + 1, none⟩ = some (.string p.2)
theorem Rd.below {w w' : World} {A : Option Addr} {xs : List Pr} (h : Rd w A xs) (hb : Below w.heap.size w w') : Rd w' A xs := fun j p hj => by
  obtain ⟨g, off, e, h1, h2⟩ := h j p hj
  exact ⟨g, off, e, (hb.cell (World.block_lt_of_cell? w _ h1)).trans h1, (hb.cell (World.block_lt_of_cell? w _ h2)).trans h2⟩
/-- a row of pairs that the call owns -/
def Own (base : Nat) (w : World) (v : Value) (xs : List Pr) : Prop := w.ownsRow base 29 2 v xs.length (flat xs)
theorem Own.rd {base : Nat} {w : World} {v : Value} {xs : List Pr} (h : Own base w v xs) : ∃ A c, v = .slice A xs.length c ∧ Rd w A xs ∧ (A = none ∨ ∃ g, A = some ⟨g, 0, none⟩) := by
  rcases h.2 with ⟨h1, h0⟩ | ⟨g, cap, cur, rfl, hg, _⟩
  · exact ⟨none, 0, by rw [h1, h0], fun j p hj => by rw [List.length_eq_zero_iff.1 h0] at hj; simp at hj, .inl rfl⟩
  · refine ⟨_, cap, rfl, fun j p hj => ⟨g, 0, rfl, ?_⟩, .inr ⟨g, rfl⟩⟩
    have hf := flat_get xs j p hj
    obtain ⟨hl, _⟩ := List.getElem?_eq_some_iff.1 hj
    have h' : w.ownsRow base 29 2 (.slice (some ⟨g, 0, none⟩) xs.length cap) xs.length (flat xs) := h
    rw [Nat.zero_add, h'.cellAt (j * 2) (by omega), h'.cellAt (j * 2 + 1) (by omega)]
    exact hf
end Go.Proofs.Ytimhdegdmdilaaa
/- Keys are in one order; sorted stretches of a list, and lists that have the pairs of each key in the same order. -/
namespace Go.Proofs.Ytimhdegdmdilaaa
open Go.Lib
set_option linter.unusedVariables false
set_option maxRecDepth 100000
set_option maxRecDepth 100000
set_option linter.unusedSimpArgs false
set_option linter.unnecessarySimpa false

theorem cb_neg (a b : List UInt8) : compareBytes b a = - compareBytes a b := by
  induction a generalizing b with
  | nil => cases b <;> simp [compareBytes]
  | cons x a ih =>
    cases b with
    | nil => simp [compareBytes]
    | cons y b =>
      simp only [compareBytes]
      by_cases h1 : x < y
      · have h2 : ¬ y < x := fun h => absurd (UInt8.lt_trans h1 h) (UInt8.lt_irrefl x)
        simp [h1, h2]
      · by_cases h2 : y < x
        · simp [h1, h2]
        · simp [h1, h2, ih]
theorem cb_zero (a b : List UInt8) : compareBytes a b = 0 ↔ a = b := by
  induction a generalizing b with
  | nil => cases b <;> simp [compareBytes]
  | cons x a ih =>
    cases b with
    | nil => simp [compareBytes]
    | cons y b =>
      simp only [compareBytes]
      by_cases h1 : x < y
      · have : x ≠ y := UInt8.ne_of_lt h1
        simp [h1, this]
      · by_cases h2 : y < x
        · have : x ≠ y := fun e => UInt8.ne_of_lt h2 e.symm
          simp [h1, h2, this]
        · have : x = y := UInt8.le_antisymm (UInt8.not_lt.1 h2) (UInt8.not_lt.1 h1)
          simp [h1, h2, ih, this]
theorem cb_trans (a b c : List UInt8) (h1 : compareBytes a b < 0) (h2 : compareBytes b c < 0) : compareBytes a c < 0 := by
  induction a generalizing b c with
  | nil =>
    cases b with
    | nil => simp [compareBytes] at h1
    | cons y b =>
      cases c with
      | nil => simp [compareBytes] at h2
      | cons z c => simp [compareBytes]
  | cons x a ih =>
    cases b with
    | nil => simp [compareBytes] at h1
    | cons y b =>
      cases c with
      | nil => simp [compareBytes] at h2
      | cons z c =>
        simp only [compareBytes] at h1 h2 ⊢
        by_cases hxy : x < y
        · by_cases hyz : y < z
          · simp [UInt8.lt_trans hxy hyz]
          · by_cases hzy : z < y
            · simp [hyz, hzy] at h2
            · have e : y = z := UInt8.le_antisymm (UInt8.not_lt.1 hzy) (UInt8.not_lt.1 hyz)
              subst e
              simp [hxy]
        · by_cases hyx : y < x
          · simp [hxy, hyx] at h1
          · have e : x = y := UInt8.le_antisymm (UInt8.not_lt.1 hyx) (UInt8.not_lt.1 hxy)
            subst e
            simp only [hxy, if_false] at h1
            by_cases hyz : x < z
            · simp [hyz]
            · by_cases hzy : z < x
              · simp [hyz, hzy] at h2
              · simp only [hyz, hzy, if_false] at h2 ⊢
                exact ih b c h1 h2
theorem bytes_ext {a b : ByteArray} (h : a.data.toList = b.data.toList) : a = b := by
  obtain ⟨a⟩ := a
  obtain ⟨b⟩ := b
  simp at h
  rw [h]
theorem cmpS_neg (a b : ByteArray) : cmpS b a = - cmpS a b := cb_neg _ _
theorem cmpS_zero (a b : ByteArray) : cmpS a b = 0 ↔ a = b := ⟨fun h => bytes_ext ((cb_zero _ _).1 h), fun h => h ▸ (cb_zero _ _).2 rfl⟩
/-- less -/
def Lt (a b : ByteArray) : Prop := cmpS a b < 0
/-- not greater -/
def Le (a b : ByteArray) : Prop := 0 ≤ cmpS b a
theorem Lt.trans {a b c : ByteArray} (h1 : Lt a b) (h2 : Lt b c) : Lt a c := cb_trans _ _ _ h1 h2
theorem Lt.le {a b : ByteArray} (h : Lt a b) : Le a b := by unfold Lt at h; unfold Le; have := cmpS_neg a b; omega
theorem Lt.ne {a b : ByteArray} (h : Lt a b) : a ≠ b := fun e => by have := (cmpS_zero a b).2 e; unfold Lt at h; omega
theorem not_lt_le {a b : ByteArray} (h : ¬ cmpS a b < 0) : Le b a := by unfold Le; omega
theorem Le.lt_or_eq {a b : ByteArray} (h : Le a b) : Lt a b ∨ a = b := by
  unfold Le at h
  have := cmpS_neg a b
  by_cases h0 : cmpS a b = 0
  · exact .inr ((cmpS_zero a b).1 h0)
  · exact .inl (by unfold Lt; omega)
theorem Le.refl (a : ByteArray) : Le a a := by unfold Le; rw [(cmpS_zero a a).2 rfl]; exact Int.le_refl _
theorem Le.trans {a b c : ByteArray} (h1 : Le a b) (h2 : Le b c) : Le a c := by
  rcases h1.lt_or_eq with h | rfl
  · rcases h2.lt_or_eq with h' | rfl
    · exact (h.trans h').le
    · exact h1
  · exact h2
theorem Le.trans_lt {a b c : ByteArray} (h1 : Le a b) (h2 : Lt b c) : Lt a c := by
  rcases h1.lt_or_eq with h | rfl
  · exact h.trans h2
  · exact h2
theorem Lt.trans_le {a b c : ByteArray} (h1 : Lt a b) (h2 : Le b c) : Lt a c := by
  rcases h2.lt_or_eq with h | rfl
  · exact h1.trans h
  · exact h1
theorem Lt.asymm {a b : ByteArray} (h : Lt a b) (h' : Le b a) : False := (h.trans_le h').ne rfl

/-- the p-th pair, and its key -/
def pat (xs : List Pr) (p : Nat) : Pr := xs[p]?.getD (ByteArray.empty, ByteArray.empty)
def kat (xs : List Pr) (p : Nat) : ByteArray := (pat xs p).1
theorem pat_get {xs : List Pr} {p : Nat} (h : p < xs.length) : xs[p]? = some (pat xs p) := by
  unfold pat; rw [List.getElem?_eq_getElem h]; rfl
/-- from a to b the keys do not fall -/
def Srt (xs : List Pr) (a b : Nat) : Prop := ∀ p q, a ≤ p → p < q → q < b → Le (kat xs p) (kat xs q)
/-- the pairs of each key are the same, in the same order -/
def Stab (xs ys : List Pr) : Prop := ∀ k : ByteArray, ys.filter (fun p => decide (p.1 = k)) = xs.filter (fun p => decide (p.1 = k))
theorem Stab.refl (xs : List Pr) : Stab xs xs := fun _ => rfl
theorem Stab.trans {xs ys zs : List Pr} (h : Stab xs ys) (h' : Stab ys zs) : Stab xs zs := fun k => (h' k).trans (h k)
/-- two stretches with no key in common change places -/
theorem stab_rot (a u v b : List Pr) (h : ∀ x ∈ u, ∀ y ∈ v, x.1 ≠ y.1) : Stab (a ++ u ++ v ++ b) (a ++ v ++ u ++ b) := by
  intro k
  simp only [List.filter_append, List.append_assoc]
  congr 1
  rw [← List.append_assoc, ← List.append_assoc]
  congr 1
  by_cases hu : ∃ x ∈ u, x.1 = k
  · obtain ⟨x, hx, hk⟩ := hu
    have : v.filter (fun p => decide (p.1 = k)) = [] := by
      rw [List.filter_eq_nil_iff]
      intro y hy hyk
      simp at hyk
      exact h x hx y hy (hk.trans hyk.symm)
    simp [this]
  · have : u.filter (fun p => decide (p.1 = k)) = [] := by
      rw [List.filter_eq_nil_iff]
      intro y hy hyk
      simp at hyk
      exact hu ⟨y, hy, hyk⟩
    simp [this]
/-- two pairs change places -/
def sw (xs : List Pr) (i j : Nat) : List Pr := (xs.set i (pat xs j)).set j (pat xs i)
theorem sw_length (xs : List Pr) (i j : Nat) : (sw xs i j).length = xs.length := by simp [sw]
theorem pat_sw {xs : List Pr} {i j : Nat} (hi : i < xs.length) (hj : j < xs.length) (p : Nat) :
    pat (sw xs i j) p = if p = j then pat xs i else if p = i then pat xs j else pat xs p := by
  unfold sw
  generalize hx : pat xs i = x
  generalize hy : pat xs j = y
  unfold pat
  rw [List.getElem?_set, List.length_set, List.getElem?_set]
  by_cases h1 : j = p
  · subst h1; simp [hj]
  · by_cases h2 : i = p
    · subst h2
      have : ¬ i = j := fun e => h1 e.symm
      simp [h1, hi, this]
    · have e1 : ¬ p = j := fun e => h1 e.symm
      have e2 : ¬ p = i := fun e => h2 e.symm
      simp [h1, h2, e1, e2]
theorem sw_get {xs : List Pr} {i j p : Nat} (h1 : p ≠ i) (h2 : p ≠ j) : (sw xs i j)[p]? = xs[p]? := by
  unfold sw
  rw [List.getElem?_set_ne (Ne.symm h2), List.getElem?_set_ne (Ne.symm h1)]
/-- of two neighbours with unlike keys -/
theorem stab_sw {xs : List Pr} {j : Nat} (hj : j + 1 < xs.length) (h : kat xs (j + 1) ≠ kat xs j) : Stab xs (sw xs (j + 1) j) := by
  have hlt : j < xs.length := by omega
  have e1 : xs = xs.take j ++ [pat xs j] ++ [pat xs (j + 1)] ++ xs.drop (j + 2) := by
    have h1 : xs.drop j = pat xs j :: pat xs (j + 1) :: xs.drop (j + 2) := by
      rw [List.drop_eq_getElem_cons hlt, List.drop_eq_getElem_cons hj]
      simp [pat, hlt, hj]
    calc xs = xs.take j ++ xs.drop j := (List.take_append_drop j xs).symm
      _ = _ := by rw [h1]; simp
  have hl : (xs.take j).length = j := by rw [List.length_take]; omega
  have e2 : sw xs (j + 1) j = xs.take j ++ [pat xs (j + 1)] ++ [pat xs j] ++ xs.drop (j + 2) := by
    unfold sw
    generalize hx : pat xs (j + 1) = x at *
    generalize hy : pat xs j = y at *
    generalize xs.take j = t at *
    generalize xs.drop (j + 2) = d at *
    subst e1
    subst hl
    simp
  have := stab_rot (xs.take j) [pat xs j] [pat xs (j + 1)] (xs.drop (j + 2)) (by
    intro x hx y hy
    simp at hx hy
    subst hx hy
    exact Ne.symm h)
  rw [← e1, ← e2] at this
  exact this

/-- the element at j goes down; all others from a to i are in order, and those behind it are greater -/
def Ins (xs : List Pr) (a j i : Nat) : Prop :=
  (∀ p q, a ≤ p → p < q → q ≤ i → p ≠ j → q ≠ j → Le (kat xs p) (kat xs q)) ∧ (∀ q, j < q → q ≤ i → Lt (kat xs j) (kat xs q))
theorem ins_start {xs : List Pr} {a i : Nat} (h : Srt xs a i) : Ins xs a i i :=
  ⟨fun p q h1 h2 h3 h4 h5 => h p q h1 h2 (by omega), fun q h1 h2 => by omega⟩
theorem ins_end {xs : List Pr} {a j i : Nat} (h : Ins xs a j i) (he : j ≤ a ∨ Le (kat xs (j - 1)) (kat xs j)) : Srt xs a (i + 1) := by
  intro p q h1 h2 h3
  by_cases hp : p = j
  · subst hp; exact (h.2 q h2 (by omega)).le
  · by_cases hq : q = j
    · subst hq
      rcases he with he | he
      · omega
      · by_cases hp1 : p = q - 1
        · rw [hp1]; exact he
        · exact (h.1 p (q - 1) h1 (by omega) (by omega) hp (by omega)).trans he
    · exact h.1 p q h1 h2 (by omega) hp hq
theorem ins_step {xs : List Pr} {a j i : Nat} (h : Ins xs a (j + 1) i) (ha : a ≤ j) (hi : j + 1 ≤ i) (hl : i < xs.length) (hlt : Lt (kat xs (j + 1)) (kat xs j)) : Ins (sw xs (j + 1) j) a j i := by
  have hk : ∀ p, kat (sw xs (j + 1) j) p = if p = j then kat xs (j + 1) else if p = j + 1 then kat xs j else kat xs p := fun p => by
    unfold kat
    rw [pat_sw (by omega) (by omega)]
    split
    · rfl
    · split <;> rfl
  constructor
  · intro p q h1 h2 h3 h4 h5
    rw [hk, hk, if_neg h4, if_neg h5]
    by_cases hp : p = j + 1
    · rw [if_pos hp, if_neg (by omega)]
      exact h.1 j q ha (by omega) h3 (by omega) (by omega)
    · rw [if_neg hp]
      by_cases hq : q = j + 1
      · rw [if_pos hq]
        exact h.1 p j h1 (by omega) (by omega) hp (by omega)
      · rw [if_neg hq]
        exact h.1 p q h1 h2 h3 hp hq
  · intro q h1 h2
    rw [hk, hk, if_pos rfl, if_neg (by omega)]
    by_cases hq : q = j + 1
    · rw [if_pos hq]; exact hlt
    · rw [if_neg hq]; exact h.2 q (by omega) h2
end Go.Proofs.Ytimhdegdmdilaaa
/- The insertion sort of a stretch of a list of pairs. -/
namespace Go.Proofs.Ytimhdegdmdilaaa
open Go.RowKit Go.Lib
set_option linter.unusedVariables false
set_option maxRecDepth 100000
set_option maxRecDepth 100000
set_option linter.unusedSimpArgs false
set_option linter.unnecessarySimpa false

/-- a stretch has been sorted -/
def SortPost (base g cap : Nat) (xs : List Pr) (a b : Nat) (w : World) (e : Ending) (w' : World) : Prop :=
  e = .returned (.tuple #[]) ∧ ∃ xs', Own base w' (.slice (some ⟨g, 0, none⟩) xs.length cap) xs' ∧ xs'.length = xs.length ∧ Stab xs xs' ∧ (∀ p, p < a ∨ b ≤ p → xs'[p]? = xs[p]?) ∧ Srt xs' a b ∧ Keep [g] w w'
/-- the four cells of two pairs of a row -/
theorem Own.two {base g cap n : Nat} {w : World} {xs : List Pr} (h : Own base w (.slice (some ⟨g, 0, none⟩) n cap) xs) (i : Nat) (hi : i < xs.length) :
    w.cell? ⟨g, i * 2, none⟩ = some (.string (pat xs i).1) ∧ w.cell? ⟨g, i * 2 + 1, none⟩ = some (.string (pat xs i).2) ∧ w.frozen? ⟨g, i * 2, none⟩ = false ∧ w.frozen? ⟨g, i * 2 + 1, none⟩ = false := by
  have hn : n = xs.length := by
    rcases h.2 with ⟨h1, h0⟩ | ⟨g', cap', cur, h1, _⟩
    · cases h1
    · simp at h1; exact h1.2.1
  subst hn
  have h' : w.ownsRow base 29 2 (.slice (some ⟨g, 0, none⟩) xs.length cap) xs.length (flat xs) := h
  have hf := flat_get xs i _ (pat_get hi)
  exact ⟨(h'.cellAt (i * 2) (by omega)).trans hf.1, (h'.cellAt (i * 2 + 1) (by omega)).trans hf.2, h'.frozenAt _, h'.frozenAt _⟩

theorem Own.swap {base g cap n : Nat} {w : World} {xs : List Pr} (h : Own base w (.slice (some ⟨g, 0, none⟩) n cap) xs) (i j : Nat) (hi : i < xs.length) (hj : j < xs.length) :
    Own base ((((w.setCell ⟨g, i * 2, none⟩ (.string (pat xs j).1)).setCell ⟨g, i * 2 + 1, none⟩ (.string (pat xs j).2)).setCell ⟨g, j * 2, none⟩ (.string (pat xs i).1)).setCell ⟨g, j * 2 + 1, none⟩ (.string (pat xs i).2)) (.slice (some ⟨g, 0, none⟩) n cap) (sw xs i j) := by
  have hn : n = xs.length := by
    rcases h.2 with ⟨h1, h0⟩ | ⟨g', cap', cur, h1, _⟩
    · cases h1
    · simp at h1; exact h1.2.1
  subst hn
  have h' : w.ownsRow base 29 2 (.slice (some ⟨g, 0, none⟩) xs.length cap) xs.length (flat xs) := h
  have h1 := (((h'.stored (i * 2) (.string (pat xs j).1)).1.stored (i * 2 + 1) (.string (pat xs j).2)).1.stored (j * 2) (.string (pat xs i).1)).1.stored (j * 2 + 1) (.string (pat xs i).2)
  have h2 := h1.1
  rw [flat_set xs i (pat xs j) hi, flat_set (xs.set i (pat xs j)) j (pat xs i) (by simpa using hj)] at h2
  unfold Own
  rw [sw_length]
  exact h2

end Go.Proofs.Ytimhdegdmdilaaa
/- What a sorted list with each key once, and its last value, is: there is just one. -/
namespace Go.Proofs.Ytimhdegdmdilaaa
open Go.Lib
set_option linter.unusedVariables false
set_option maxRecDepth 100000
set_option maxRecDepth 100000
set_option linter.unusedSimpArgs false
set_option linter.unnecessarySimpa false

/-- each key is less than the next ones -/
def RisesL (R : List Pr) : Prop := R.Pairwise fun p q => Lt p.1 q.1
/-- the pairs with a key -/
def withKey (xs : List Pr) (k : ByteArray) : List Pr := xs.filter fun p => decide (p.1 = k)
/-- each key of xs once, with its last value -/
structure IsNorm (xs R : List Pr) : Prop where
  rises : RisesL R
  mem : ∀ p, p ∈ R ↔ (withKey xs p.1).getLast? = some p
theorem eq_of_rises : ∀ {R R' : List Pr}, RisesL R → RisesL R' → (∀ p, p ∈ R ↔ p ∈ R') → R = R'
  | [], [], _, _, _ => rfl
  | [], y :: r', _, _, h => absurd ((h y).2 (by simp)) (by simp)
  | x :: r, [], _, _, h => absurd ((h x).1 (by simp)) (by simp)
  | x :: r, y :: r', h1, h2, h => by
    unfold RisesL at h1 h2
    rw [List.pairwise_cons] at h1 h2
    have hxy : x = y := by
      rcases List.mem_cons.1 ((h x).1 (by simp)) with e | hx
      · exact e
      · rcases List.mem_cons.1 ((h y).2 (by simp)) with e | hy
        · exact e.symm
        · exact absurd rfl ((h2.1 x hx).trans (h1.1 y hy)).ne
    subst hxy
    congr 1
    refine eq_of_rises h1.2 h2.2 fun p => ⟨fun hp => ?_, fun hp => ?_⟩
    · rcases List.mem_cons.1 ((h p).1 (List.mem_cons_of_mem _ hp)) with e | h'
      · subst e; exact absurd rfl (h1.1 p hp).ne
      · exact h'
    · rcases List.mem_cons.1 ((h p).2 (List.mem_cons_of_mem _ hp)) with e | h'
      · subst e; exact absurd rfl (h2.1 p hp).ne
      · exact h'
theorem norm_unique {xs R R' : List Pr} (h : IsNorm xs R) (h' : IsNorm xs R') : R = R' :=
  eq_of_rises h.rises h'.rises fun p => (h.mem p).trans (h'.mem p).symm
theorem IsNorm.stab {xs ys R : List Pr} (h : IsNorm ys R) (hs : Stab xs ys) : IsNorm xs R :=
  ⟨h.rises, fun p => by rw [h.mem p]; unfold withKey; rw [hs p.1]⟩

/-- of a list whose keys do not fall: the last of each key -/
def dd : List Pr → List Pr
  | [] => []
  | [x] => [x]
  | x :: y :: r => if y.1 = x.1 then dd (y :: r) else x :: dd (y :: r)
theorem dd_cons (x : Pr) (r : List Pr) : dd (x :: r) = (if r = [] ∨ kat r 0 ≠ x.1 then [x] else []) ++ dd r := by
  cases r with
  | nil => simp [dd]
  | cons y r =>
    rw [dd]
    have : kat (y :: r) 0 = y.1 := rfl
    rw [this]
    by_cases h : y.1 = x.1 <;> simp [h]
theorem dd_mem {ys : List Pr} {p : Pr} (h : p ∈ dd ys) : p ∈ ys := by
  induction ys with
  | nil => simp [dd] at h
  | cons x r ih =>
    rw [dd_cons] at h
    rcases List.mem_append.1 h with h | h
    · split at h
      · simp at h; simp [h]
      · simp at h
    · exact List.mem_cons_of_mem _ (ih h)
theorem dd_norm {ys : List Pr} (h : ys.Pairwise fun p q => Le p.1 q.1) : IsNorm ys (dd ys) := by
  induction ys with
  | nil => exact ⟨List.Pairwise.nil, fun p => by simp [dd, withKey]⟩
  | cons x r ih =>
    rw [List.pairwise_cons] at h
    have ih := ih h.2
    cases r with
    | nil =>
      refine ⟨by simp [dd, RisesL], fun p => ?_⟩
      simp only [dd, List.mem_singleton, withKey]
      constructor
      · rintro rfl; simp
      · intro h
        by_cases e : x.1 = p.1
        · simp [e] at h; exact h.symm
        · simp [e] at h
    | cons y r =>
      have hp := List.pairwise_cons.1 h.2
      by_cases e : y.1 = x.1
      · have ed : dd (x :: y :: r) = dd (y :: r) := by rw [dd, if_pos e]
        rw [ed]
        refine ⟨ih.rises, fun p => ?_⟩
        rw [ih.mem p]
        have : (withKey (x :: y :: r) p.1).getLast? = (withKey (y :: r) p.1).getLast? := by
          by_cases ep : x.1 = p.1
          · have h1 : withKey (x :: y :: r) p.1 = x :: withKey (y :: r) p.1 := by simp [withKey, ep]
            have h2 : withKey (y :: r) p.1 = y :: withKey r p.1 := by simp [withKey, e, ep]
            rw [h1, h2]
            rw [List.getLast?_cons_cons]
          · have h1 : withKey (x :: y :: r) p.1 = withKey (y :: r) p.1 := by
              unfold withKey
              rw [List.filter_cons_of_neg (by simpa using ep)]
            rw [h1]
        rw [this]
      · have ed : dd (x :: y :: r) = x :: dd (y :: r) := by rw [dd, if_neg e]
        have hlt : ∀ q ∈ y :: r, Lt x.1 q.1 := by
          have hxy : Lt x.1 y.1 := by
            rcases (h.1 y (by simp)).lt_or_eq with h | h
            · exact h
            · exact absurd h.symm e
          intro q hq
          rcases List.mem_cons.1 hq with rfl | hq
          · exact hxy
          · exact hxy.trans_le (hp.1 q hq)
        rw [ed]
        refine ⟨?_, fun p => ?_⟩
        · unfold RisesL
          rw [List.pairwise_cons]
          exact ⟨fun q hq => hlt q (dd_mem hq), ih.rises⟩
        · by_cases ep : x.1 = p.1
          · have h2 : withKey (y :: r) p.1 = [] := by
              unfold withKey
              rw [List.filter_eq_nil_iff]
              intro q hq hqp
              simp at hqp
              exact (hlt q hq).ne (ep.trans hqp.symm)
            have h1 : withKey (x :: y :: r) p.1 = [x] := by
              have : withKey (x :: y :: r) p.1 = x :: withKey (y :: r) p.1 := by
                unfold withKey
                rw [List.filter_cons_of_pos (by simpa using ep)]
              rw [this, h2]
            rw [h1]
            simp only [List.mem_cons, List.getLast?_singleton, Option.some.injEq]
            constructor
            · rintro (rfl | hq)
              · rfl
              · exact absurd ep (hlt p (dd_mem hq)).ne
            · intro e; exact .inl e.symm
          · have h1 : withKey (x :: y :: r) p.1 = withKey (y :: r) p.1 := by
              unfold withKey
              rw [List.filter_cons_of_neg (by simpa using ep)]
            rw [h1, ← ih.mem p]
            simp only [List.mem_cons]
            constructor
            · rintro (rfl | hq)
              · exact absurd rfl ep
              · exact hq
            · exact .inr
theorem pairwise_of_srt {ys : List Pr} (h : Srt ys 0 ys.length) : ys.Pairwise fun p q => Le p.1 q.1 := by
  rw [List.pairwise_iff_getElem]
  intro i j hi hj hij
  have := h i j (Nat.zero_le _) hij hj
  unfold kat pat at this
  rw [List.getElem?_eq_getElem hi, List.getElem?_eq_getElem hj] at this
  exact this
end Go.Proofs.Ytimhdegdmdilaaa
/- Copies of lists; the stable sort of short lists. -/
namespace Go.Proofs.Ytimhdegdmdilaaa
open Go.RowKit Go.Lib
set_option linter.unusedVariables false
set_option maxRecDepth 100000
set_option maxRecDepth 100000
set_option linter.unusedSimpArgs false
set_option linter.unnecessarySimpa false

theorem info33 : (Try.prog.info? 29).map (fun i => (i.zero, i.size, i.bytes)) = some (some (.agg #[.string ByteArray.empty, .string ByteArray.empty]), 2, 32) := by kernel_rfl
theorem flat_one (xs : List Pr) : ∀ u ∈ flat xs, u.oneCell' = true := by
  intro u hu
  unfold flat at hu
  obtain ⟨p, _, hp⟩ := List.mem_flatMap.1 hu
  simp at hp
  rcases hp with rfl | rfl <;> rfl
theorem addr_add (g off j : Nat) : (⟨g, off, none⟩ : Addr).add j = ⟨g, off + j, none⟩ := by unfold Addr.add; split <;> simp_all
/-- the cells of a slice of pairs, one by one -/
theorem Rd.cells {w : World} {g off : Nat} {xs : List Pr} (h : Rd w (some ⟨g, off, none⟩) xs) : ∀ j u, (flat xs)[j]? = some u → w.cell? ((⟨g, off, none⟩ : Addr).add j) = some u := by
  intro j u hj
  rw [addr_add]
  have hl := (List.getElem?_eq_some_iff.1 hj).1
  rw [flat_length] at hl
  have hp := pat_get (xs := xs) (p := j / 2) (by omega)
  obtain ⟨g', off', e, h1, h2⟩ := h (j / 2) _ hp
  simp at e
  obtain ⟨rfl, rfl⟩ := e
  have hf := flat_get xs (j / 2) _ hp
  rcases Nat.mod_two_eq_zero_or_one j with hm | hm
  · have ej : j / 2 * 2 = j := by omega
    rw [ej] at h1 hf
    rw [hj] at hf
    rw [h1, hf.1]
  · have ej : j / 2 * 2 + 1 = j := by omega
    rw [Nat.add_assoc, ej] at h2
    rw [ej] at hf
    rw [hj] at hf
    rw [h2, hf.2]
theorem Rd.starts {w : World} {A : Option Addr} {xs : List Pr} (h : Rd w A xs) (hx : 0 < xs.length) : ∃ g off, A = some ⟨g, off, none⟩ := by
  obtain ⟨g, off, e, _⟩ := h 0 _ (pat_get hx)
  exact ⟨g, off, e⟩

/-- a list in memory of its own -/
def NewList (xs : List Pr) (w : World) (e : Ending) (w' : World) : Prop := ∃ v, e = .returned v ∧ Own w.heap.size w' v xs ∧ Below w.heap.size w w'
theorem own_lit (w : World) : Own w.heap.size (w.alloc (.cells #[] 29)) (.slice (some ⟨w.heap.size, 0, none⟩) 0 0) [] :=
  World.ownsRow_lit w #[] 0 (Nat.le_refl _) (Nat.zero_le _) rfl

end Go.Proofs.Ytimhdegdmdilaaa
/- Sorted, of lists of a length at which the stable sort does what it should. -/
namespace Go.Proofs.Ytimhdegdmdilaaa
open Go.RowKit Go.Lib
set_option linter.unusedVariables false
set_option maxRecDepth 100000
set_option maxRecDepth 100000
set_option linter.unusedSimpArgs false
set_option linter.unnecessarySimpa false


theorem kat_drop (ys : List Pr) (j : Nat) : kat (ys.drop j) 0 = kat ys j := by simp [kat, pat]
theorem dd_step (ys : List Pr) (j : Nat) (h : j < ys.length) : dd (ys.drop j) = (if j + 1 = ys.length ∨ kat ys (j + 1) ≠ kat ys j then [pat ys j] else []) ++ dd (ys.drop (j + 1)) := by
  have e : ys.drop j = pat ys j :: ys.drop (j + 1) := by
    rw [List.drop_eq_getElem_cons h]
    simp [pat, h]
  rw [e, dd_cons, kat_drop]
  congr 1
  have : (ys.drop (j + 1) = []) ↔ j + 1 = ys.length := by
    rw [List.drop_eq_nil_iff]; omega
  simp only [this]
  rfl

theorem cell_two_new (w : World) (x y : Value) (t : TypeId) : ∀ j u, [x, y][j]? = some u → (w.alloc (.cells #[x, y] t)).cell? ((⟨w.heap.size, 0, none⟩ : Addr).add j) = some u := by
  intro j u h
  rw [addr_add, Nat.zero_add, (Blk.new w t #[x, y]).cell j]
  simpa using h
theorem flat_snoc (R : List Pr) (p : Pr) : flat (R ++ [p]) = flat R ++ [.string p.1, .string p.2] := by simp [flat]
theorem flat_cell (p : Pr) : ∀ u ∈ [Value.string p.1, Value.string p.2], u.oneCell' = true := by simp [Value.oneCell']
/-- one pair more behind a list of one's own -/
theorem Own.snoc {base : Nat} {w : World} {v : Value} {R : List Pr} {p : Pr} (h : w.ownsRow base 29 2 v (R.length + 1) (flat R ++ [.string p.1, .string p.2])) : Own base w v (R ++ [p]) := by
  unfold Own
  rw [flat_snoc, List.length_append]
  exact h

end Go.Proofs.Ytimhdegdmdilaaa
/- Same of package pair and of its reference: whether two lists are equal. -/
namespace Go.Proofs.Ytimhdegdmdilaaa
open Go.RowKit Go.Lib
set_option linter.unusedVariables false
set_option maxRecDepth 100000
set_option maxRecDepth 100000
set_option linter.unusedSimpArgs false
set_option linter.unnecessarySimpa false
/-- whether two pairs are one -/
def peq (p q : Pr) : Bool := decide (p = q)
theorem peq_bytes (p q : Pr) : peq p q = (p.1.toList == q.1.toList && p.2.toList == q.2.toList) := by
  unfold peq
  rw [Bool.eq_iff_iff]
  simp only [decide_eq_true_eq, Bool.and_eq_true, beq_iff_eq, ByteArray.toList_eq]
  constructor
  · rintro rfl; exact ⟨rfl, rfl⟩
  · rintro ⟨h1, h2⟩; exact Prod.ext (bytes_ext h1) (bytes_ext h2)
set_option maxHeartbeats 1000000 in
theorem eq33 (p q : Pr) (d : Nat) (w : World) : (Op.equalIn (d + 2) 29 (.agg #[.string p.1, .string p.2]) (.agg #[.string q.1, .string q.2])).run Try.prog w = .ok (peq p q) w := by
  have u9 := Try.underlying9
  have hS : Try.prog.underlying 29 = some (.struct (Try.prog.fieldsOf 29)) := by kernel_rfl
  have hp : Try.prog.stoodInHeld 29 = false := by kernel_rfl
  rw [run_equalIn_struct w (d + 1) 29 _ _ hS hp]
  simp only [Program.fieldsOf, Try.underlying29]
  go_simp
  rw [peq_bytes]
  by_cases h1 : p.1.toList = q.1.toList <;> by_cases h2 : p.2.toList = q.2.toList <;> simp [h1, h2]
set_option maxHeartbeats 1000000 in
theorem eq40 (p q : Pr) (d : Nat) (w : World) : (Op.equalIn (d + 2) 33 (.agg #[.string p.1, .string p.2]) (.agg #[.string q.1, .string q.2])).run Try.prog w = .ok (peq p q) w := by
  have u9 := Try.underlying9
  have hS : Try.prog.underlying 33 = some (.struct (Try.prog.fieldsOf 33)) := by kernel_rfl
  have hp : Try.prog.stoodInHeld 33 = false := by kernel_rfl
  rw [run_equalIn_struct w (d + 1) 33 _ _ hS hp]
  simp only [Program.fieldsOf, Try.underlying33]
  go_simp
  rw [peq_bytes]
  by_cases h1 : p.1.toList = q.1.toList <;> by_cases h2 : p.2.toList = q.2.toList <;> simp [h1, h2]
theorem neq33 (p q : Pr) (w : World) : (binOp .neq 29 (.agg #[.string p.1, .string p.2]) (.agg #[.string q.1, .string q.2])).run Try.prog w = .ok (.bool (!peq p q)) w := by
  rw [run_neq_struct, show (10000 : Nat) = 9998 + 2 from rfl, eq33 p q 9998 w]; rfl
theorem neq40 (p q : Pr) (w : World) : (binOp .neq 33 (.agg #[.string p.1, .string p.2]) (.agg #[.string q.1, .string q.2])).run Try.prog w = .ok (.bool (!peq p q)) w := by
  rw [run_neq_struct, show (10000 : Nat) = 9998 + 2 from rfl, eq40 p q 9998 w]; rfl
/-- whether two lists are one -/
def leq (xs ys : List Pr) : Bool := decide (xs = ys)
theorem leq_step {xs ys : List Pr} {k : Nat} (hl : xs.length = ys.length) (hk : k < xs.length) (h : xs.take k = ys.take k) (he : peq (pat xs k) (pat ys k) = true) : xs.take (k + 1) = ys.take (k + 1) := by
  unfold peq at he
  have he := of_decide_eq_true he
  rw [List.take_succ_eq_append_getElem hk, List.take_succ_eq_append_getElem (by omega : k < ys.length), h]
  unfold pat at he
  rw [List.getElem?_eq_getElem hk, List.getElem?_eq_getElem (by omega : k < ys.length)] at he
  simp at he
  rw [he]
theorem leq_no {xs ys : List Pr} {k : Nat} (he : peq (pat xs k) (pat ys k) = false) : leq xs ys = false := by
  unfold leq peq at *
  rw [decide_eq_false_iff_not] at *
  rintro rfl; exact he rfl
theorem Rd.at {w : World} {A : Option Addr} {xs : List Pr} (h : Rd w A xs) (k : Nat) (hk : k < xs.length) : ∃ g off, A = some ⟨g, off, none⟩ ∧ w.cell? ⟨g, off + k * 2, none⟩ = some (.string (pat xs k).1) ∧ w.cell? ⟨g, off + k * 2 + 1, none⟩ = some (.string (pat xs k).2) := h k _ (pat_get hk)
theorem Rd.drewN {w : World} {A : Option Addr} {xs : List Pr} (h : Rd w A xs) (n : Nat) : Rd (w.drewN n) A xs := h

end Go.Proofs.Ytimhdegdmdilaaa
