/- Sorted, of lists of a length at which the stable sort does what it should. -/
import Derived.Test.YtgldgdpgbfejmaaPc
import Derived.Deep.QuietTactic
import Derived.BigQuiet
import Derived.Laws.Strings
namespace Go.Proofs.Ytgldgdpgbfejmaa
open Go.RowKit Go.Lib
set_option linter.unusedVariables false
set_option linter.unusedSimpArgs false


theorem kat_drop (ys : List Pr) (j : Nat) : kat (ys.drop j) 0 = kat ys j := by simp [kat, pat]
theorem dd_step (ys : List Pr) (j : Nat) (h : j < ys.length) : dd (ys.drop j) = (if j + 1 = ys.length ∨ kat ys (j + 1) ≠ kat ys j then [pat ys j] else []) ++ dd (ys.drop (j + 1)) := by
  have e : ys.drop j = pat ys j :: ys.drop (j + 1) := by
    rw [List.drop_eq_getElem_cons h]
    simp [pat, h]
  rw [e, dd_cons, kat_drop]
  congr 1
  have : (ys.drop (j + 1) = []) ↔ j + 1 = ys.length := by
    rw [List.drop_eq_nil_iff]; omega
  simp only [this]
  rfl

theorem cell_two_new (w : World) (x y : Value) (t : TypeId) : ∀ j u, [x, y][j]? = some u → (w.alloc (.cells #[x, y] t)).cell? ((⟨w.heap.size, 0, none⟩ : Addr).add j) = some u := by
  intro j u h
  rw [addr_add, Nat.zero_add, (Blk.new w t #[x, y]).cell j]
  simpa using h
theorem flat_snoc (R : List Pr) (p : Pr) : flat (R ++ [p]) = flat R ++ [.string p.1, .string p.2] := by simp [flat]
theorem flat_cell (p : Pr) : ∀ u ∈ [Value.string p.1, Value.string p.2], u.oneCell' = true := by simp [Value.oneCell']
/-- one pair more behind a list of one's own -/
theorem Own.snoc {base : Nat} {w : World} {v : Value} {R : List Pr} {p : Pr} (h : w.ownsRow base 27 2 v (R.length + 1) (flat R ++ [.string p.1, .string p.2])) : Own base w v (R ++ [p]) := by
  unfold Own
  rw [flat_snoc, List.length_append]
  exact h

end Go.Proofs.Ytgldgdpgbfejmaa
