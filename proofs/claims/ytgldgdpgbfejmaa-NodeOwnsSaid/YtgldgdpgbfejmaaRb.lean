/- The reference's Find; what stands around a key in a rising list. -/
import Derived.Test.YtgldgdpgbfejmaaRa
namespace Go.Proofs.Ytgldgdpgbfejmaa
open Go.RowKit Go.Lib
set_option linter.unusedVariables false
set_option linter.unusedSimpArgs false
/-- those less than a key -/
def lessK (xs : List Pr) (k : ByteArray) : List Pr := xs.take (posK xs k)
/-- those greater -/
def moreK (xs : List Pr) (k : ByteArray) : List Pr := xs.drop (posK xs k + if isK xs k = true then 1 else 0)
theorem Rd.take {w : World} {A : Option Addr} {xs : List Pr} (h : Rd w A xs) (n : Nat) : Rd w A (xs.take n) := fun j p hj => by
  rw [List.getElem?_take] at hj
  split at hj
  · exact h j p hj
  · cases hj
theorem Rd.drop {w : World} {g off : Nat} {xs : List Pr} (h : Rd w (some ⟨g, off, none⟩) xs) (n : Nat) : Rd w (some ⟨g, off + n * 2, none⟩) (xs.drop n) := fun j p hj => by
  rw [List.getElem?_drop] at hj
  obtain ⟨g', off', e, h1, h2⟩ := h (n + j) p hj
  simp at e
  obtain ⟨rfl, rfl⟩ := e
  refine ⟨_, _, rfl, ?_, ?_⟩
  · rw [show off + n * 2 + j * 2 = off + (n + j) * 2 by omega]; exact h1
  · rw [show off + n * 2 + j * 2 + 1 = off + (n + j) * 2 + 1 by omega]; exact h2
/-- what is told of those around a key -/
def AroundPost (xs : List Pr) (k : ByteArray) (w : World) (e : Ending) (w' : World) : Prop :=
  ∃ A1 c1 A2 c2, e = .returned (.tuple #[.slice A1 (lessK xs k).length c1, .slice A2 (moreK xs k).length c2]) ∧ Rd w' A1 (lessK xs k) ∧ Rd w' A2 (moreK xs k) ∧ (A1 = none → c1 = 0) ∧ (A2 = none → c2 = 0) ∧ Below w.heap.size w w'
theorem around_end {A : Option Addr} {c P Q : Nat} {xs : List Pr} {k : ByteArray} {w w' : World} (hR : Rd w' A xs) (hB : Below w.heap.size w w') (hP : P = posK xs k) (hQ : Q = posK xs k + if isK xs k = true then 1 else 0) (hPN : P ≤ xs.length) (hc : xs.length ≤ c) (h00 : A = none → c = 0) (n : Nat) (A2 : Option Addr) (hA2 : A2 = if c = Q then A else A.map (·.add (Q * 2))) :
    AroundPost xs k w (.returned (.tuple #[.slice A P c, .slice A2 (xs.length - Q) (c - Q)])) (w'.drewN n) := by
  have e1 : (lessK xs k).length = P := by unfold lessK; rw [List.length_take, ← hP]; omega
  have e2 : (moreK xs k).length = xs.length - Q := by unfold moreK; rw [List.length_drop, ← hQ]
  refine ⟨A, c, A2, c - Q, by rw [e1, e2], (hR.take _).drewN n, ?_, h00, (fun hn => by
    subst hA2
    split at hn
    · rw [h00 hn]; simp
    · rw [h00 (by simpa using hn)]; simp), ⟨hB.os, hB.tape, hB.output, hB.size, hB.block⟩⟩
  refine Rd.drewN (w := w') ?_ n
  unfold moreK
  rw [← hQ]
  by_cases h0 : xs.length ≤ Q
  · rw [List.drop_eq_nil_of_le h0]
    intro j p hj
    simp at hj
  · obtain ⟨g, off, rfl⟩ := hR.starts (by omega)
    rw [if_neg (by omega)] at hA2
    rw [hA2, Option.map_some, addr_add]
    exact hR.drop Q
end Go.Proofs.Ytgldgdpgbfejmaa
