/- Opening a list of pairs that was handed in. -/
import Derived.Test.YtgldgdpgbfejmaaPg
import Derived.Deep.SlicePairs
import Derived.OpenShut
import Derived.ChangeOld
namespace Go.Proofs.Ytgldgdpgbfejmaa
open Go.ChangeShapes Go.WideShapes Go.RowKit Go.Lib Go.Deep
set_option linter.unusedVariables false
set_option linter.unusedSimpArgs false
def strV : Value → ByteArray
  | .string s => s
  | _ => ByteArray.empty
theorem flat_map (n : Nat) (f : Nat → Pr) (j : Nat) (u : Value) (h : (flat ((List.range n).map f))[j]? = some u) : j / 2 < n ∧ ((j % 2 = 0 ∧ u = .string (f (j / 2)).1) ∨ (j % 2 = 1 ∧ u = .string (f (j / 2)).2)) := by
  have hl := (List.getElem?_eq_some_iff.1 h).1
  rw [flat_length, List.length_map, List.length_range] at hl
  have hp : ((List.range n).map f)[j / 2]? = some (f (j / 2)) := by rw [List.getElem?_map, List.getElem?_range (by omega)]; rfl
  have hf := flat_get _ _ _ hp
  refine ⟨by omega, ?_⟩
  rcases Nat.mod_two_eq_zero_or_one j with hm | hm
  · refine .inl ⟨hm, ?_⟩
    have ej : j / 2 * 2 = j := by omega
    rw [ej, h] at hf
    exact Option.some.inj hf.1
  · refine .inr ⟨hm, ?_⟩
    have ej : j / 2 * 2 + 1 = j := by omega
    rw [ej, h] at hf
    exact Option.some.inj hf.2
theorem fields33 : ∃ f0 f1, Try.prog.underlying 27 = some (.struct #[f0, f1]) ∧ f0.offset = 0 ∧ f1.offset = 1 ∧ f0.type = 9 ∧ f1.type = 9 := ⟨_, _, Try.underlying27, rfl, rfl, rfl, rfl⟩
theorem open_pairs {H : Type} {enc : TypeId × Value → H} {W : World} {base : Nat} {spare : Nat → Bool} {held : Bool} {a : Option Addr} {len cap : Nat} {d : DataW H} {p : List MemPlace}
    (h : DataW.Trod enc Try.prog W base spare held 40 (.slice a len cap) d p) : ∃ ps, ArgP W a len cap ps := by
  obtain ⟨fuel, hf⟩ := h
  obtain ⟨f0, f1, hu, o0, o1, t0, t1⟩ := fields33
  rcases open_slice_pairs Try.underlying40 hu (by kernel_rfl) o0 o1 (by rw [t0]; kernel_rfl) (by rw [t1]; kernel_rfl) hf with ⟨hcs, _⟩ | ⟨x, l, c, m, n, V0, V1, D0, D1, P0, P1, hcs, _, hl, hm, hmm, _, hc⟩
  · simp [Value.cells] at hcs
    obtain ⟨rfl, rfl, rfl⟩ := hcs
    exact ⟨[], .inl ⟨rfl, rfl, rfl, rfl⟩⟩
  · simp [Value.cells] at hcs
    obtain ⟨rfl, rfl, rfl⟩ := hcs
    have hlm : len ≤ m := by rw [hmm]; split <;> omega
    refine ⟨(List.range len).map fun i => (strV (V0 i), strV (V1 i)), .inr ⟨x, rfl, by simp, hl, hm, fun j u hj => ?_⟩⟩
    obtain ⟨hlt, hu'⟩ := flat_map len _ j u hj
    obtain ⟨e0, e1, g0, g1⟩ := hc (j / 2) (by omega)
    rw [t0] at g0
    rw [t1] at g1
    obtain ⟨s0, hs0, _⟩ := DataW.trod_string Try.underlying9 g0
    obtain ⟨s1, hs1, _⟩ := DataW.trod_string Try.underlying9 g1
    simp at hs0 hs1
    rcases hu' with ⟨hm2, rfl⟩ | ⟨hm2, rfl⟩
    · have ej : j / 2 * 2 = j := by omega
      rw [ej] at e0
      rw [e0, hs0]; rfl
    · have ej : j / 2 * 2 + 1 = j := by omega
      rw [ej] at e1
      rw [e1, hs1]; rfl
/-- a row of one's own, handed on -/
theorem Own.arg {base g cap : Nat} {w : World} {xs : List Pr} (h : Own base w (.slice (some ⟨g, 0, none⟩) xs.length cap) xs) : ArgP w (some ⟨g, 0, none⟩) xs.length cap xs := by
  obtain ⟨A, c, hv, hRd, _⟩ := h.rd
  simp at hv
  obtain ⟨rfl, rfl⟩ := hv
  have h' : w.ownsRow base 27 2 (.slice (some ⟨g, 0, none⟩) xs.length cap) xs.length (flat xs) := h
  rcases h'.2 with ⟨h1, _⟩ | ⟨g', cap', cur, h1, _, _, hc, hm, _⟩
  · cases h1
  · simp at h1
    obtain ⟨rfl, rfl⟩ := h1
    exact .inr ⟨_, rfl, rfl, hc, hm, hRd.cells⟩
end Go.Proofs.Ytgldgdpgbfejmaa
