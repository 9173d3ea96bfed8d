/- Copies of lists; the stable sort of short lists. -/
import Derived.Test.YtgldgdpgbfejmaaPp
import Derived.Test.YtgldgdpgbfejmaaPq
import Derived.Laws.AppendOwnNone
import Derived.Lib.SliceRun
namespace Go.Proofs.Ytgldgdpgbfejmaa
open Go.RowKit Go.Lib
set_option linter.unusedVariables false
set_option linter.unusedSimpArgs false

theorem info33 : (Try.prog.info? 27).map (fun i => (i.zero, i.size, i.bytes)) = some (some (.agg #[.string ByteArray.empty, .string ByteArray.empty]), 2, 32) := by kernel_rfl
theorem flat_one (xs : List Pr) : ∀ u ∈ flat xs, u.oneCell' = true := by
  intro u hu
  unfold flat at hu
  obtain ⟨p, _, hp⟩ := List.mem_flatMap.1 hu
  simp at hp
  rcases hp with rfl | rfl <;> rfl
theorem addr_add (g off j : Nat) : (⟨g, off, none⟩ : Addr).add j = ⟨g, off + j, none⟩ := by unfold Addr.add; split <;> simp_all
/-- the cells of a slice of pairs, one by one -/
theorem Rd.cells {w : World} {g off : Nat} {xs : List Pr} (h : Rd w (some ⟨g, off, none⟩) xs) : ∀ j u, (flat xs)[j]? = some u → w.cell? ((⟨g, off, none⟩ : Addr).add j) = some u := by
  intro j u hj
  rw [addr_add]
  have hl := (List.getElem?_eq_some_iff.1 hj).1
  rw [flat_length] at hl
  have hp := pat_get (xs := xs) (p := j / 2) (by omega)
  obtain ⟨g', off', e, h1, h2⟩ := h (j / 2) _ hp
  simp at e
  obtain ⟨rfl, rfl⟩ := e
  have hf := flat_get xs (j / 2) _ hp
  rcases Nat.mod_two_eq_zero_or_one j with hm | hm
  · have ej : j / 2 * 2 = j := by omega
    rw [ej] at h1 hf
    rw [hj] at hf
    rw [h1, hf.1]
  · have ej : j / 2 * 2 + 1 = j := by omega
    rw [Nat.add_assoc, ej] at h2
    rw [ej] at hf
    rw [hj] at hf
    rw [h2, hf.2]
theorem Rd.starts {w : World} {A : Option Addr} {xs : List Pr} (h : Rd w A xs) (hx : 0 < xs.length) : ∃ g off, A = some ⟨g, off, none⟩ := by
  obtain ⟨g, off, e, _⟩ := h 0 _ (pat_get hx)
  exact ⟨g, off, e⟩

/-- a list in memory of its own -/
def NewList (xs : List Pr) (w : World) (e : Ending) (w' : World) : Prop := ∃ v, e = .returned v ∧ Own w.heap.size w' v xs ∧ Below w.heap.size w w'
theorem own_lit (w : World) : Own w.heap.size (w.alloc (.cells #[] 27)) (.slice (some ⟨w.heap.size, 0, none⟩) 0 0) [] :=
  World.ownsRow_lit w #[] 0 (Nat.le_refl _) (Nat.zero_le _) rfl

set_option maxHeartbeats 2000000 in
theorem clone_any (g off c : Nat) (xs : List Pr) (w : World) (hR : Rd w (some ⟨g, off, none⟩) xs) (hn : xs.length ≤ 1000) :
    Calls Try.prog 52 #[.slice (some ⟨g, off, none⟩) xs.length c] w fun e w' => ∃ g' c', e = .returned (.slice (some ⟨g', 0, none⟩) xs.length c') ∧ Own w.heap.size w' (.slice (some ⟨g', 0, none⟩) xs.length c') xs ∧ Below w.heap.size w w' := by
  obtain ⟨i0, hi, hz0, hz1, hz2⟩ := info_parts info33
  have hR1 := hR.below ((Below.refl _ w).alloc (Nat.le_refl _) (.cells #[] 27))
  have hlit := own_lit w
  have hnl := fun w => run_eql_slice_nil (P := Try.prog) w 40 27 (some ⟨g, off, none⟩) xs.length c 0 0 Try.underlying40
  go_enter Try.func52, Try.ntmps52
  go_wp2_with (at_builtin; refine wpList_append_own _ rfl _ _ 40 rfl w.heap.size 27 i0 _ 2 32 Try.underlying40 hi hz0 hz1 hz2 rfl (by decide) _ _ _ rfl hlit ⟨g, off, none⟩ xs.length c (flat xs) rfl (flat_length xs) hR1.cells (flat_one xs) (by unfold maxLen; simp; omega) (by simp; omega) (by simp) ?_; intro v' wa hown' hgrow hnil)
  go_ret
  have hB : Below w.heap.size w wa := ((Below.refl _ w).alloc (Nat.le_refl _) _).grown hgrow (by simp) (own_ge hlit)
  have hO : Own w.heap.size wa v' xs := by
    unfold Own
    have e : flat [] = [] := rfl
    rw [e] at hown'
    simpa using hown'
  rcases hO.2 with ⟨h1, h0⟩ | ⟨g', cap', cur, h1, _⟩
  · have := (hnil.1 h1).1
    cases this
  · subst h1
    exact ⟨g', cap', rfl, hO, hB⟩
end Go.Proofs.Ytgldgdpgbfejmaa
