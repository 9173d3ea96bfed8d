/- The example of layer 3 returns true. -/
import Derived.Test.YtfipifjlmepooaaPe
namespace Go.Proofs.Ytfipifjlmepooaa
open Go.RowKit Go.Lib
set_option linter.unusedVariables false
set_option linter.unusedSimpArgs false
def sB : ByteArray := ⟨#[98]⟩
def sA : ByteArray := ⟨#[97]⟩
def s1 : ByteArray := ⟨#[49]⟩
def s2 : ByteArray := ⟨#[50]⟩
def s3 : ByteArray := ⟨#[51]⟩
theorem norm_example : IsNorm [(sB, s1), (sA, s2), (sB, s3)] [(sA, s2), (sB, s3)] := by
  have hab : sA ≠ sB := by decide
  constructor
  · unfold RisesL
    rw [List.pairwise_cons]
    refine ⟨fun q hq => ?_, by simp⟩
    simp at hq
    subst hq
    unfold Lt cmpS
    decide
  · intro p
    obtain ⟨k, v⟩ := p
    simp only [withKey]
    by_cases h1 : k = sB
    · subst h1
      have : ¬ sA = sB := hab
      simp [List.filter, this, Ne.symm hab]
      constructor <;> intro h <;> exact h.symm
    · by_cases h2 : k = sA
      · subst h2
        simp [List.filter, hab, Ne.symm hab]
        constructor <;> intro h <;> exact h.symm
      · simp [List.filter, h1, h2, Ne.symm h1, Ne.symm h2]
theorem Rd.of_cells {w : World} {g : Nat} {xs : List Pr} {t : TypeId} (h : Blk w g t (flat xs).toArray) : Rd w (some ⟨g, 0, none⟩) xs := fun j p hj => by
  have hf := flat_get xs j p hj
  refine ⟨g, 0, rfl, ?_, ?_⟩
  · rw [Nat.zero_add, h.cell]; simpa using hf.1
  · rw [Nat.zero_add, h.cell]; simpa using hf.2
set_option maxRecDepth 100000 in
set_option maxHeartbeats 2000000 in
theorem awake3 (w : World) : Calls Try.prog 13 #[] w fun e w' => e = .returned (.bool true) ∧ Below w.heap.size w w' := by
  go_enter Try.func13, Try.ntmps13
  go_wp2_with fail
  have hR := Rd.of_cells (xs := [(sB, s1), (sA, s2), (sB, s3)]) (Blk.new w 33 _)
  have hB0 : Below w.heap.size w (w.alloc (.cells (flat [(sB, s1), (sA, s2), (sB, s3)]).toArray 33)) := (Below.refl _ w).alloc (Nat.le_refl _) _
  refine (sorted_of 3 (sorts_short 3 (by omega)) w.heap.size 0 3 [(sB, s1), (sA, s2), (sB, s3)] _ hR rfl (by omega)).mono ?_
  rintro e w1 ⟨v, R, rfl, hO, hN, hB1⟩
  obtain rfl := norm_unique hN norm_example
  obtain ⟨A, c, rfl, hRd, -⟩ := hO.rd
  have hB := hB0.trans (hB1.mono (by simp))
  clear hR hB0 hN hO hB1
  go_wp2_with fail
  have hR2 := Rd.of_cells (xs := [(sA, s2), (sB, s3)]) (Blk.new w1 33 _)
  have hB2 : Below w1.heap.size w1 (w1.alloc (.cells (flat [(sA, s2), (sB, s3)]).toArray 33)) := (Below.refl _ w1).alloc (Nat.le_refl _) _
  refine (same_any A (some ⟨w1.heap.size, 0, none⟩) c 2 [(sA, s2), (sB, s3)] [(sA, s2), (sB, s3)] _ (hRd.below hB2) hR2 (by decide) (by decide)).mono ?_
  rintro e w' ⟨rfl, n, rfl⟩
  have hl : leq [(sA, s2), (sB, s3)] [(sA, s2), (sB, s3)] = true := by unfold leq; simp
  rw [hl]
  have hB3 := hB.trans (hB2.mono hB.size)
  go_wp2_with fail
  go_ret
  refine ⟨rfl, ?_⟩
  exact ⟨hB3.os, hB3.tape, hB3.output, hB3.size, hB3.block⟩
end Go.Proofs.Ytfipifjlmepooaa
