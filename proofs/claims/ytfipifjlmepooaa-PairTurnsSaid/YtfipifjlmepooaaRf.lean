/- What put and drop do to rising lists: by their pairs; lists in memory, once more. -/
import Derived.Test.YtfipifjlmepooaaRe
import Derived.Deep.RegionHeld3
namespace Go.Proofs.Ytfipifjlmepooaa
open Go.RowKit Go.Lib
set_option linter.unusedVariables false
set_option linter.unusedSimpArgs false
theorem put_mem (xs : List Pr) (p x : Pr) : x ∈ putK xs p ↔ x = p ∨ (x ∈ xs ∧ x.1 ≠ p.1) := by
  unfold putK
  rw [ins_mem, drop_mem]
theorem put_rises {xs : List Pr} (p : Pr) (h : RisesL xs) : RisesL (putK xs p) :=
  ins_rises p _ (drop_rises xs p.1 h) (fun x hx => ((drop_mem _ _ _).1 hx).2)
/-- one key, one pair -/
theorem rises_one {xs : List Pr} (h : RisesL xs) {x y : Pr} (hx : x ∈ xs) (hy : y ∈ xs) (e : x.1 = y.1) : x = y := by
  induction xs with
  | nil => cases hx
  | cons q r ih =>
    have h' := List.pairwise_cons.1 h
    rcases List.mem_cons.1 hx with hx | hx <;> rcases List.mem_cons.1 hy with hy | hy
    · rw [hx, hy]
    · exact absurd (by rw [← hx]; exact e) (h'.1 y hy).ne
    · exact absurd (by rw [← hy]; exact e.symm) (h'.1 x hx).ne
    · exact ih h'.2 hx hy
theorem put_comm {xs : List Pr} (p q : Pr) (h : RisesL xs) (hne : p.1 ≠ q.1) : putK (putK xs p) q = putK (putK xs q) p := by
  refine eq_of_rises (put_rises _ (put_rises _ h)) (put_rises _ (put_rises _ h)) fun x => ?_
  rw [put_mem, put_mem, put_mem, put_mem]
  constructor
  · rintro (rfl | ⟨rfl | ⟨h1, h2⟩, h3⟩)
    · exact .inr ⟨.inl rfl, fun e => hne e.symm⟩
    · exact .inl rfl
    · exact .inr ⟨.inr ⟨h1, h3⟩, h2⟩
  · rintro (rfl | ⟨rfl | ⟨h1, h2⟩, h3⟩)
    · exact .inr ⟨.inl rfl, hne⟩
    · exact .inl rfl
    · exact .inr ⟨.inr ⟨h1, h3⟩, h2⟩
theorem put_twice {xs : List Pr} (p q : Pr) (h : RisesL xs) (he : q.1 = p.1) : putK (putK xs p) q = putK xs q := by
  refine eq_of_rises (put_rises _ (put_rises _ h)) (put_rises _ h) fun x => ?_
  rw [put_mem, put_mem, put_mem]
  constructor
  · rintro (rfl | ⟨rfl | ⟨h1, h2⟩, h3⟩)
    · exact .inl rfl
    · exact absurd he.symm h3
    · exact .inr ⟨h1, h3⟩
  · rintro (rfl | ⟨h1, h2⟩)
    · exact .inl rfl
    · exact .inr ⟨.inr ⟨h1, by rw [← he]; exact h2⟩, h2⟩
theorem isK_spec {xs : List Pr} {k : ByteArray} (h : isK xs k = true) : posK xs k < xs.length ∧ (pat xs (posK xs k)).1 = k := by
  unfold isK at h; exact of_decide_eq_true h
theorem pat_mem {xs : List Pr} {j : Nat} (h : j < xs.length) : pat xs j ∈ xs := by
  have := pat_get h
  exact List.mem_of_getElem? this
theorem put_drop {xs : List Pr} (k : ByteArray) (h : RisesL xs) (hk : isK xs k = true) : putK (dropK xs k) (pat xs (posK xs k)) = xs := by
  obtain ⟨hl, he⟩ := isK_spec hk
  have hm := pat_mem hl
  refine eq_of_rises (put_rises _ (drop_rises _ _ h)) h fun x => ?_
  rw [put_mem, drop_mem, he]
  constructor
  · rintro (rfl | ⟨⟨h1, _⟩, _⟩)
    · exact hm
    · exact h1
  · intro hx
    by_cases e : x.1 = k
    · exact .inl (rises_one h hx hm (by rw [e, he]))
    · exact .inr ⟨⟨hx, e⟩, e⟩
theorem notK {xs : List Pr} {k : ByteArray} (h : RisesL xs) (hk : isK xs k = false) : ∀ x ∈ xs, x.1 ≠ k := by
  intro x hx e
  obtain ⟨j, hj⟩ := List.getElem?_of_mem hx
  obtain ⟨hl, _⟩ := List.getElem?_eq_some_iff.1 hj
  have hp : pat xs j = x := by simp [pat, hj]
  rcases Nat.lt_trichotomy j (posK xs k) with h1 | h1 | h1
  · have := posK_lt xs k j h1; rw [hp, e] at this; exact this.ne rfl
  · unfold isK at hk
    rw [← h1, hp] at hk
    simp [hl, e] at hk
  · have h2 := rises_at h h1 hl
    rw [hp, e] at h2
    exact posK_not xs k (by omega) h2
theorem drop_none {xs : List Pr} {k : ByteArray} (h : RisesL xs) (hk : isK xs k = false) : dropK xs k = xs := dropK_id xs k (notK h hk)
theorem drop_put {xs : List Pr} (p : Pr) (h : RisesL xs) (hk : isK xs p.1 = false) : dropK (putK xs p) p.1 = xs := by
  refine eq_of_rises (drop_rises _ _ (put_rises _ h)) h fun x => ?_
  rw [drop_mem, put_mem]
  constructor
  · rintro ⟨rfl | ⟨h1, _⟩, h2⟩
    · exact absurd rfl h2
    · exact h1
  · intro hx
    have := notK h hk x hx
    exact ⟨.inr ⟨hx, this⟩, this⟩
theorem drop_len (xs : List Pr) (k : ByteArray) : (dropK xs k).length ≤ xs.length := List.length_filter_le _ _
/-- a list of the call's own, as a slice -/
theorem Own.lies {base : Nat} {w : World} {v : Value} {xs : List Pr} (h : Own base w v xs) : ∃ A c, v = .slice A xs.length c ∧ Rd w A xs ∧ xs.length ≤ c ∧ (A = none → c = 0) ∧ ArgP w A xs.length c xs := by
  obtain ⟨A, c, rfl, hR, hA, hN⟩ := h.lie
  rcases hA with ⟨rfl, rfl⟩ | ⟨g, rfl⟩
  · obtain rfl := hN rfl
    exact ⟨none, 0, rfl, hR, Nat.le_refl _, fun _ => rfl, .inl ⟨rfl, rfl, rfl, rfl⟩⟩
  · have ha := h.arg
    refine ⟨_, c, rfl, hR, ?_, (fun h => by cases h), ha⟩
    rcases ha with ⟨h1, _⟩ | ⟨x, _, _, hc, _⟩
    · cases h1
    · exact hc
theorem cell_on {w w' : World} {a : Addr} {v : Value} (h : w.cell? a = some v) (hb : Below w.heap.size w w') : w'.cell? a = some v :=
  (hb.cell (World.block_lt_of_cell? w _ h)).trans h
theorem below_drewn {B : Nat} {a w : World} (h : Below B a w) (n : Nat) : Below B a (w.drewN n) := ⟨h.os, h.tape, h.output, h.size, h.block⟩
theorem leq_refl (xs : List Pr) : leq xs xs = true := by unfold leq; simp
/-- Put, its pair written out -/
theorem put_at (A : Option Addr) (c : Nat) (xs : List Pr) (k u : ByteArray) (w : World) (hR : Rd w A xs) (hn : xs.length ≤ 1000) (hr : RisesL xs) (hc : xs.length ≤ c) (h00 : A = none → c = 0) :
    Calls Try.prog 24 #[.slice A xs.length c, .agg #[.string k, .string u]] w fun e w' => ∃ v, e = .returned v ∧ Own w.heap.size w' v (putK xs (k, u)) ∧ Below w.heap.size w w' := put_any A c xs (k, u) w hR hn hr hc h00
/-- a list of the call's own, as a slice, whose room is what it is -/
def Sl (w : World) (A : Option Addr) (c : Nat) (xs : List Pr) : Prop := Rd w A xs ∧ xs.length ≤ c ∧ (A = none → c = 0) ∧ RisesL xs
theorem Sl.below {w w' : World} {A : Option Addr} {c : Nat} {xs : List Pr} (h : Sl w A c xs) (hb : Below w.heap.size w w') : Sl w' A c xs := ⟨h.1.below hb, h.2⟩
theorem put_sl {A : Option Addr} {c : Nat} {xs : List Pr} {w : World} (h : Sl w A c xs) (k u : ByteArray) (hn : xs.length ≤ 1000) :
    Calls Try.prog 24 #[.slice A xs.length c, .agg #[.string k, .string u]] w fun e w' => ∃ A' c', e = .returned (.slice A' (putK xs (k, u)).length c') ∧ Sl w' A' c' (putK xs (k, u)) ∧ Below w.heap.size w w' := by
  refine (put_at A c xs k u w h.1 hn h.2.2.2 h.2.1 h.2.2.1).mono ?_
  rintro e w' ⟨v, rfl, hO, hB⟩
  obtain ⟨A', c', rfl, h1, h2, h3, -⟩ := hO.lies
  exact ⟨A', c', rfl, ⟨h1, h2, h3, put_rises _ h.2.2.2⟩, hB⟩
theorem drop_sl {A : Option Addr} {c : Nat} {xs : List Pr} {w : World} (h : Sl w A c xs) (k : ByteArray) (hn : xs.length ≤ 1000) :
    Calls Try.prog 25 #[.slice A xs.length c, .string k] w fun e w' => ∃ A' c', e = .returned (.slice A' (dropK xs k).length c') ∧ Sl w' A' c' (dropK xs k) ∧ Below w.heap.size w w' := by
  refine (drop_any A c xs k w h.1 hn h.2.2.2 h.2.1 h.2.2.1).mono ?_
  rintro e w' ⟨v, rfl, hO, hB⟩
  obtain ⟨A', c', rfl, h1, h2, h3, -⟩ := hO.lies
  exact ⟨A', c', rfl, ⟨h1, h2, h3, drop_rises _ _ h.2.2.2⟩, hB⟩
/-- Same of two slices that are one list -/
theorem same_sl {A B : Option Addr} {ca cb : Nat} {xs ys : List Pr} {w : World} (ha : Rd w A xs) (hb : Rd w B ys) (hn : xs.length ≤ 1000) (hm : ys.length ≤ 1000) (he : xs = ys) :
    Calls Try.prog 19 #[.slice A xs.length ca, .slice B ys.length cb] w fun e w' => e = .returned (.bool true) ∧ Below w.heap.size w w' := by
  refine (same_any A B ca cb xs ys w ha hb hn hm).mono ?_
  rintro e w' ⟨rfl, n, rfl⟩
  subst he
  rw [leq_refl]
  exact ⟨rfl, below_of_drew w n⟩
/-- a pair that was handed in -/
theorem open_pair {H : Type} {enc : TypeId × Value → H} {W : World} {b base : Nat} {spare : Nat → Bool} {held : Bool} {v : Value} {d : DataW H} {p : List MemPlace}
    (hv : Value.okWide Try.prog W .any b 33 v) (h : DataW.Trod enc Try.prog W base spare held 33 v d p) : ∃ k u, v = .agg #[.string k, .string u] ∧ k.size ≤ maxLen := by
  obtain ⟨f0, f1, hu, o0, o1, t0, t1⟩ := fields33
  obtain ⟨cs, rfl, hsz⟩ := Go.WideShapes.okWide_struct hu hv
  have hc : Try.prog.cellsOf 33 = 2 := by kernel_rfl
  have hc9 : Try.prog.cellsOf 9 = 1 := by kernel_rfl
  rw [hc] at hsz
  obtain ⟨x, y, rfl⟩ : ∃ x y, cs = #[x, y] := by
    match cs, hsz with
    | ⟨[x, y]⟩, _ => exact ⟨x, y, rfl⟩
  obtain ⟨fuel, hf⟩ := h
  obtain ⟨y0, y1, n, -, -, g0, g1⟩ := Go.ChangeShapes.trod_struct2 hu hf
  rw [o0, t0, hc9] at g0
  rw [o1, t1, hc9] at g1
  simp [Value.cells] at g0 g1
  obtain ⟨s0, hs0, _, hz⟩ := DataW.trod_string Try.underlying9 g0
  obtain ⟨s1, hs1, _⟩ := DataW.trod_string Try.underlying9 g1
  simp at hs0 hs1
  subst hs0 hs1
  exact ⟨s0, s1, rfl, hz⟩
end Go.Proofs.Ytfipifjlmepooaa
