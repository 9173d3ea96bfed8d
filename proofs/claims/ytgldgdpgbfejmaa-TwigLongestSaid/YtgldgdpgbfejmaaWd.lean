/- The calls of package twig and of its reference as 'what they return, and nothing that was there has changed'; the law's own helpers. -/
import Derived.Test.YtgldgdpgbfejmaaWc
namespace Go.Proofs.Ytgldgdpgbfejmaa
open Go.RowKit Go.Lib
set_option linter.unusedVariables false
set_option linter.unusedSimpArgs false
theorem Below.next {w a b : World} (h : Below w.heap.size w a) (k : Below a.heap.size a b) : Below w.heap.size w b := h.trans (k.mono h.size)
theorem drewN_below (B : Nat) (w : World) (n : Nat) : Below B w (w.drewN n) := ⟨rfl, rfl, rfl, Nat.le_refl _, fun _ _ => rfl⟩
theorem len60 {s : ByteArray} (h : s.size ≤ 120) : s.size ≤ maxLen := by unfold maxLen; omega
theorem commonW (a b : ByteArray) (w : World) (ha : a.size ≤ 120) (hb : b.size ≤ 120) : Calls Try.prog 37 #[.string a, .string b] w fun e w' => e = .returned (.int .i64 (cm a b : Nat)) ∧ Below w.heap.size w w' :=
  (common_any a b w (len60 ha) (len60 hb)).mono fun e w' ⟨he, n, hw⟩ => ⟨he, hw ▸ drewN_below _ _ _⟩
theorem refCommonW (a b : ByteArray) (w : World) (ha : a.size ≤ 120) (hb : b.size ≤ 120) : Calls Try.prog 39 #[.string a, .string b] w fun e w' => e = .returned (.int .i64 (cm a b : Nat)) ∧ Below w.heap.size w w' :=
  (refCommon_any a b w (len60 ha) (len60 hb)).mono fun e w' ⟨he, n, hw⟩ => ⟨he, hw ▸ drewN_below _ _ _⟩
theorem lessW (a b : ByteArray) (w : World) (ha : a.size ≤ 120) (hb : b.size ≤ 120) : Calls Try.prog 44 #[.string a, .string b] w fun e w' => e = .returned (.bool (ltB a b)) ∧ Below w.heap.size w w' :=
  (less_any a b w (len60 ha) (len60 hb)).mono fun e w' ⟨he, n, hw⟩ => ⟨he, hw ▸ drewN_below _ _ _⟩
theorem beginsW (a b : ByteArray) (w : World) (ha : a.size ≤ 120) (hb : b.size ≤ 120) : Calls Try.prog 40 #[.string a, .string b] w fun e w' => e = .returned (.bool (bgB a b)) ∧ Below w.heap.size w w' :=
  (begins_any a b w (len60 ha) (len60 hb)).mono fun e w' ⟨he, hw⟩ => ⟨he, hw ▸ Below.refl _ _⟩
theorem refBeginsW (a b : ByteArray) (w : World) (ha : a.size ≤ 120) (hb : b.size ≤ 120) : Calls Try.prog 41 #[.string a, .string b] w fun e w' => e = .returned (.bool (bgB a b)) ∧ Below w.heap.size w w' :=
  (refBegins_any a b w (len60 ha) (len60 hb)).mono fun e w' ⟨he, n, hw⟩ => ⟨he, hw ▸ drewN_below _ _ _⟩
theorem cutW (a b : ByteArray) (w : World) (ha : a.size ≤ 120) (hb : b.size ≤ 120) : Calls Try.prog 38 #[.string a, .string b] w fun e w' => e = .returned (.tuple #[.string (restS a b), .bool (bgB a b)]) ∧ Below w.heap.size w w' :=
  (cut_any a b w (len60 ha) (len60 hb)).mono fun e w' ⟨he, hw⟩ => ⟨he, hw ▸ Below.refl _ _⟩
theorem refBetweenW (s a b : ByteArray) (w : World) (hs : s.size ≤ 120) (ha : a.size ≤ 120) (hb : b.size ≤ 120) : Calls Try.prog 45 #[.string s, .string a, .string b] w fun e w' => e = .returned (.bool (btB s a b)) ∧ Below w.heap.size w w' :=
  (refBetween_any s a b w (len60 hs) (len60 ha) (len60 hb)).mono fun e w' ⟨he, n, hw⟩ => ⟨he, hw ▸ drewN_below _ _ _⟩
theorem betweenW (s a b : ByteArray) (w : World) : Calls Try.prog 46 #[.string s, .string a, .string b] w fun e w' => e = .returned (.bool (btB s a b)) ∧ Below w.heap.size w w' :=
  (between_any s a b w).mono fun e w' ⟨he, hw⟩ => ⟨he, hw ▸ Below.refl _ _⟩
theorem aboveW (s : ByteArray) (w : World) (hs : s.size ≤ 120) : Calls Try.prog 42 #[.string s] w fun e w' => e = .returned (.tuple #[.string (abS s), .bool (abB s)]) ∧ Below w.heap.size w w' := above_any s w (by omega)
theorem refAboveW (s : ByteArray) (w : World) (hs : s.size ≤ 120) : Calls Try.prog 43 #[.string s] w fun e w' => e = .returned (.tuple #[.string (abS s), .bool (abB s)]) ∧ Below w.heap.size w w' := refAbove_any s.size s w rfl (by omega)
/-- a string of at most sixty bytes comes of each -/
theorem fewC (s : ByteArray) (hs : s.size ≤ maxLen) : ∃ A : ByteArray, A.size ≤ 60 ∧ ∀ w, Calls Try.prog 36 #[.string s] w fun e w' => e = .returned (.string A) ∧ w = w' :=
  ⟨_, few_size s, fun w => few_any s w hs⟩
theorem ab1 : abS ⟨#[97, 255]⟩ = ⟨#[98]⟩ ∧ abB ⟨#[97, 255]⟩ = true := by decide
theorem cm1 : cm ⟨#[97, 98, 99]⟩ ⟨#[97, 98, 100]⟩ = 2 := by decide
set_option maxRecDepth 100000 in
theorem awakeW (w : World) : Calls Try.prog 35 #[] w fun e w' => e = .returned (.bool true) ∧ Below w.heap.size w w' := by
  have h1 := aboveW ⟨#[97, 255]⟩ w (by decide)
  rw [ab1.1, ab1.2] at h1
  have h2 := fun w => commonW ⟨#[97, 98, 99]⟩ ⟨#[97, 98, 100]⟩ w (by decide) (by decide)
  rw [cm1] at h2
  go_enter Try.func35, Try.ntmps35
  go_wp2_with fail
  refine h1.mono ?_
  rintro e w1 ⟨rfl, hb1⟩
  clear h1
  go_wp2_with fail
  refine (h2 _).mono ?_
  rintro e w2 ⟨rfl, hb2⟩
  clear h2
  go_wp2_with fail
  go_ret
  exact ⟨rfl, Below.next hb1 hb2⟩
end Go.Proofs.Ytgldgdpgbfejmaa
