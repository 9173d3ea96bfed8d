/- Slices of strings; what Longest returns. -/
import Derived.Test.YtgldgdpgbfejmaaWd
import Derived.OwnWalk
import Derived.Maps.AppendAt
namespace Go.Proofs.Ytgldgdpgbfejmaa
open Go.RowKit Go.Lib
set_option linter.unusedVariables false
set_option linter.unusedSimpArgs false
/-- a slice's strings -/
def StrR (w : World) (A : Option Addr) (xs : List ByteArray) : Prop := ∀ j x, xs[j]? = some x → ∃ g off, A = some ⟨g, off, none⟩ ∧ w.cell? ⟨g, off + j, none⟩ = some (.string x)
/-- the string at a place -/
def sat (xs : List ByteArray) (j : Nat) : ByteArray := xs.getD j ByteArray.empty
theorem sat_get {xs : List ByteArray} {j : Nat} (h : j < xs.length) : xs[j]? = some (sat xs j) := by
  unfold sat
  rw [List.getD_eq_getElem?_getD, List.getElem?_eq_getElem h]; rfl
theorem StrR.at {w : World} {A : Option Addr} {xs : List ByteArray} (h : StrR w A xs) (j : Nat) (hj : j < xs.length) : ∃ g off, A = some ⟨g, off, none⟩ ∧ w.cell? ⟨g, off + j, none⟩ = some (.string (sat xs j)) := h j _ (sat_get hj)
theorem StrR.below {w w' : World} {B : Nat} {A : Option Addr} {xs : List ByteArray} (h : StrR w A xs) (hb : Below B w w') (hB : ∀ g, (∃ off, A = some ⟨g, off, none⟩) → g < B) : StrR w' A xs := fun j x hj => by
  obtain ⟨g, off, e, hc⟩ := h j x hj
  exact ⟨g, off, e, (hb.cell (p := ⟨g, off + j, none⟩) (hB g ⟨off, e⟩)).trans hc⟩
theorem StrR.keep {w w' : World} {A : Option Addr} {xs : List ByteArray} (h : StrR w A xs) (hb : Below w.heap.size w w') : StrR w' A xs := fun j x hj => by
  obtain ⟨g, off, e, hc⟩ := h j x hj
  exact ⟨g, off, e, (hb.cell (p := ⟨g, off + j, none⟩) (World.block_lt_of_cell? w _ hc)).trans hc⟩
/-- what was found among the first -/
def LInv (xs : List ByteArray) (s : ByteArray) (i a : Nat) (f : Bool) : Prop :=
  (f = false → a = 0 ∧ ∀ j, j < i → bgB s (sat xs j) = false) ∧
  (f = true → a < i ∧ bgB s (sat xs a) = true ∧ ∀ j, j < i → bgB s (sat xs j) = true → (sat xs j).size < (sat xs a).size ∨ ((sat xs j).size = (sat xs a).size ∧ a ≤ j))
theorem LInv.zero (xs : List ByteArray) (s : ByteArray) : LInv xs s 0 0 false := ⟨fun _ => ⟨rfl, fun j hj => by omega⟩, fun h => by cases h⟩
theorem LInv.pass {xs : List ByteArray} {s : ByteArray} {i a : Nat} {f : Bool} (h : LInv xs s i a f) (hb : bgB s (sat xs i) = false) : LInv xs s (i + 1) a f := by
  refine ⟨fun hf => ⟨(h.1 hf).1, fun j hj => ?_⟩, fun hf => ⟨by have := (h.2 hf).1; omega, (h.2 hf).2.1, fun j hj hjb => ?_⟩⟩
  · by_cases e : j = i
    · subst e; exact hb
    · exact (h.1 hf).2 j (by omega)
  · by_cases e : j = i
    · subst e; rw [hb] at hjb; cases hjb
    · exact (h.2 hf).2.2 j (by omega) hjb
theorem LInv.first {xs : List ByteArray} {s : ByteArray} {i a : Nat} (h : LInv xs s i a false) (hb : bgB s (sat xs i) = true) : LInv xs s (i + 1) i true := by
  refine ⟨fun hf => (by cases hf), fun hf => ⟨by omega, hb, fun j hj hjb => ?_⟩⟩
  by_cases e : j = i
  · subst e; exact .inr ⟨rfl, Nat.le_refl _⟩
  · rw [(h.1 rfl).2 j (by omega)] at hjb; cases hjb
theorem LInv.longer {xs : List ByteArray} {s : ByteArray} {i a : Nat} (h : LInv xs s i a true) (hb : bgB s (sat xs i) = true) (hl : (sat xs a).size < (sat xs i).size) : LInv xs s (i + 1) i true := by
  refine ⟨fun hf => (by cases hf), fun hf => ⟨by omega, hb, fun j hj hjb => ?_⟩⟩
  by_cases e : j = i
  · subst e; exact .inr ⟨rfl, Nat.le_refl _⟩
  · have := (h.2 rfl).2.2 j (by omega) hjb
    omega
theorem LInv.shorter {xs : List ByteArray} {s : ByteArray} {i a : Nat} (h : LInv xs s i a true) (hl : ¬ (sat xs a).size < (sat xs i).size) : LInv xs s (i + 1) a true := by
  have h2 := h.2 rfl
  refine ⟨fun hf => (by cases hf), fun hf => ⟨by omega, h2.2.1, fun j hj hjb => ?_⟩⟩
  by_cases e : j = i
  · subst e; have := h2.1; omega
  · exact h2.2.2 j (by omega) hjb
/-- what Longest returns -/
def LPost (xs : List ByteArray) (s : ByteArray) (w : World) (e : Ending) (w' : World) : Prop :=
  ∃ (a : Nat) (f : Bool), e = .returned (.tuple #[.int .i64 (a : Int), .bool f]) ∧ LInv xs s xs.length a f ∧ w = w'
set_option maxRecDepth 100000 in
set_option maxHeartbeats 4000000 in
theorem longest_any (A : Option Addr) (c : Nat) (xs : List ByteArray) (s : ByteArray) (w : World) (hR : StrR w A xs) (hn : xs.length ≤ 1000) (hx : ∀ j, (sat xs j).size ≤ 120) (hs : s.size ≤ 120) :
    Calls Try.prog 47 #[.slice A xs.length c, .string s] w (LPost xs s w) := by
  obtain ⟨n, hxs⟩ : ∃ n, n = xs.length := ⟨_, rfl⟩
  rw [← hxs] at hn ⊢
  have HX := Lib.hid hxs
  have HR := Lib.hid hR
  have HS := Lib.hid hx
  clear hxs hR hx
  go_enter Try.func47, Try.ntmps47
  go_wp2_with fail
  go_loop [6, 7, 12] (fun v f i => ∃ (j a : Nat) (b : Bool), j ≤ n ∧ i = .int .i64 j ∧ v = .int .i64 a ∧ f = .bool b ∧ Hid (LInv xs s j a b)) (fun v f i => n - (intOf i).toNat)
  case atStart => exact ⟨0, 0, false, by omega, rfl, rfl, rfl, Lib.hid (LInv.zero xs s)⟩
  case round =>
    obtain ⟨j, a, b, hj, rfl, rfl, rfl, hI⟩ := hrel
    by_cases hlt : j < n
    · obtain ⟨g, off, rfl, c0⟩ := HR.out.at j (by rw [← HX.out]; exact hlt)
      have E1 : IntKind.i64.wrap ((j : Int) + 1) = ((j + 1 : Nat) : Int) := by rw [IntWalk.i64_in _ (by omega)]; omega
      have hz := HS.out j
      have hz1 := len60 hz
      have hs1 := len60 hs
      rcases hb : bgB s (sat xs j) with _ | _
      · have P := Lib.hid (hI.out.pass hb)
        go_wp2_with (go_at_call 40; refine (begins_any _ _ _ hs1 hz1).mono ?_; rintro e w' ⟨rfl, rfl⟩)
        exact ⟨⟨j + 1, a, b, by omega, by go_num, rfl, rfl, P⟩, by simp [intOf]; omega⟩
      · cases b with
        | false =>
          have P := Lib.hid (hI.out.first hb)
          go_wp2_with (go_at_call 40; refine (begins_any _ _ _ hs1 hz1).mono ?_; rintro e w' ⟨rfl, rfl⟩)
          exact ⟨⟨j + 1, j, true, by omega, by go_num, rfl, rfl, P⟩, by simp [intOf]; omega⟩
        | true =>
          have ha := (hI.out.2 rfl).1
          obtain ⟨g', off', e', c1⟩ := HR.out.at a (by rw [← HX.out]; omega)
          obtain ⟨rfl, rfl⟩ : g = g' ∧ off = off' := by simp at e'; exact ⟨e'.1, e'.2⟩
          clear e'
          have hza := HS.out a
          by_cases hl : (sat xs a).size < (sat xs j).size
          · have P := Lib.hid (hI.out.longer hb hl)
            go_wp2_with (go_at_call 40; refine (begins_any _ _ _ hs1 hz1).mono ?_; rintro e w' ⟨rfl, rfl⟩)
            exact ⟨⟨j + 1, j, true, by omega, by go_num, rfl, rfl, P⟩, by simp [intOf]; omega⟩
          · have P := Lib.hid (hI.out.shorter hl)
            go_wp2_with (go_at_call 40; refine (begins_any _ _ _ hs1 hz1).mono ?_; rintro e w' ⟨rfl, rfl⟩)
            exact ⟨⟨j + 1, a, true, by omega, by go_num, rfl, rfl, P⟩, by simp [intOf]; omega⟩
    · obtain rfl : j = n := by omega
      go_wp2_with fail
      go_ret2
      exact ⟨a, b, rfl, by rw [← HX.out]; exact hI.out, rfl⟩
end Go.Proofs.Ytgldgdpgbfejmaa
