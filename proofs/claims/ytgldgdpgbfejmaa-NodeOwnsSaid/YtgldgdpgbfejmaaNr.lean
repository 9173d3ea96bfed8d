/- Opening a pair that was handed in; a pair put into a rising list. -/
import Derived.Test.YtgldgdpgbfejmaaPh
import Derived.Test.YtgldgdpgbfejmaaNq
namespace Go.Proofs.Ytgldgdpgbfejmaa
open Go.RowKit Go.Lib
set_option linter.unusedVariables false
set_option linter.unusedSimpArgs false
theorem put_rises {xs : List Pr} (p : Pr) (h : RisesL xs) : RisesL (putK xs p) :=
  ins_rises p _ (drop_rises xs p.1 h) (fun x hx => ((drop_mem _ _ _).1 hx).2)
set_option maxRecDepth 100000 in
theorem open_pair {H : Type} {enc : TypeId × Value → H} {W : World} {b base : Nat} {spare : Nat → Bool} {held : Bool} {v : Value} {d : DataW H} {p : List MemPlace}
    (hv : Value.okWide Try.prog W .any b 27 v) (h : DataW.Trod enc Try.prog W base spare held 27 v d p) : ∃ k u, v = .agg #[.string k, .string u] ∧ k.size ≤ maxLen := by
  obtain ⟨f0, f1, hu, o0, o1, t0, t1⟩ := fields33
  obtain ⟨cs, rfl, hsz⟩ := Go.WideShapes.okWide_struct hu hv
  have hc : Try.prog.cellsOf 27 = 2 := by kernel_rfl
  have hc9 : Try.prog.cellsOf 9 = 1 := by kernel_rfl
  rw [hc] at hsz
  obtain ⟨x, y, rfl⟩ : ∃ x y, cs = #[x, y] := by
    match cs, hsz with
    | ⟨[x, y]⟩, _ => exact ⟨x, y, rfl⟩
  obtain ⟨fuel, hf⟩ := h
  obtain ⟨y0, y1, n, -, -, g0, g1⟩ := Go.ChangeShapes.trod_struct2 hu hf
  rw [o0, t0, hc9] at g0
  rw [o1, t1, hc9] at g1
  simp [Value.cells] at g0 g1
  obtain ⟨s0, hs0, _, hz⟩ := DataW.trod_string Try.underlying9 g0
  obtain ⟨s1, hs1, _⟩ := DataW.trod_string Try.underlying9 g1
  simp at hs0 hs1
  subst hs0 hs1
  exact ⟨s0, s1, rfl, hz⟩
end Go.Proofs.Ytgldgdpgbfejmaa
