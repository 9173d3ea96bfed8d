/- What a sorted list with each key once, and its last value, is: there is just one. -/
import Derived.Test.YtgldgdpgbfejmaaPp
namespace Go.Proofs.Ytgldgdpgbfejmaa
open Go.Lib
set_option linter.unusedVariables false
set_option linter.unusedSimpArgs false

/-- each key is less than the next ones -/
def RisesL (R : List Pr) : Prop := R.Pairwise fun p q => Lt p.1 q.1
/-- the pairs with a key -/
def withKey (xs : List Pr) (k : ByteArray) : List Pr := xs.filter fun p => decide (p.1 = k)
/-- each key of xs once, with its last value -/
structure IsNorm (xs R : List Pr) : Prop where
  rises : RisesL R
  mem : ∀ p, p ∈ R ↔ (withKey xs p.1).getLast? = some p
theorem eq_of_rises : ∀ {R R' : List Pr}, RisesL R → RisesL R' → (∀ p, p ∈ R ↔ p ∈ R') → R = R'
  | [], [], _, _, _ => rfl
  | [], y :: r', _, _, h => absurd ((h y).2 (by simp)) (by simp)
  | x :: r, [], _, _, h => absurd ((h x).1 (by simp)) (by simp)
  | x :: r, y :: r', h1, h2, h => by
    unfold RisesL at h1 h2
    rw [List.pairwise_cons] at h1 h2
    have hxy : x = y := by
      rcases List.mem_cons.1 ((h x).1 (by simp)) with e | hx
      · exact e
      · rcases List.mem_cons.1 ((h y).2 (by simp)) with e | hy
        · exact e.symm
        · exact absurd rfl ((h2.1 x hx).trans (h1.1 y hy)).ne
    subst hxy
    congr 1
    refine eq_of_rises h1.2 h2.2 fun p => ⟨fun hp => ?_, fun hp => ?_⟩
    · rcases List.mem_cons.1 ((h p).1 (List.mem_cons_of_mem _ hp)) with e | h'
      · subst e; exact absurd rfl (h1.1 p hp).ne
      · exact h'
    · rcases List.mem_cons.1 ((h p).2 (List.mem_cons_of_mem _ hp)) with e | h'
      · subst e; exact absurd rfl (h2.1 p hp).ne
      · exact h'
theorem norm_unique {xs R R' : List Pr} (h : IsNorm xs R) (h' : IsNorm xs R') : R = R' :=
  eq_of_rises h.rises h'.rises fun p => (h.mem p).trans (h'.mem p).symm
theorem IsNorm.stab {xs ys R : List Pr} (h : IsNorm ys R) (hs : Stab xs ys) : IsNorm xs R :=
  ⟨h.rises, fun p => by rw [h.mem p]; unfold withKey; rw [hs p.1]⟩

/-- of a list whose keys do not fall: the last of each key -/
def dd : List Pr → List Pr
  | [] => []
  | [x] => [x]
  | x :: y :: r => if y.1 = x.1 then dd (y :: r) else x :: dd (y :: r)
theorem dd_cons (x : Pr) (r : List Pr) : dd (x :: r) = (if r = [] ∨ kat r 0 ≠ x.1 then [x] else []) ++ dd r := by
  cases r with
  | nil => simp [dd]
  | cons y r =>
    rw [dd]
    have : kat (y :: r) 0 = y.1 := rfl
    rw [this]
    by_cases h : y.1 = x.1 <;> simp [h]
theorem dd_mem {ys : List Pr} {p : Pr} (h : p ∈ dd ys) : p ∈ ys := by
  induction ys with
  | nil => simp [dd] at h
  | cons x r ih =>
    rw [dd_cons] at h
    rcases List.mem_append.1 h with h | h
    · split at h
      · simp at h; simp [h]
      · simp at h
    · exact List.mem_cons_of_mem _ (ih h)
theorem dd_norm {ys : List Pr} (h : ys.Pairwise fun p q => Le p.1 q.1) : IsNorm ys (dd ys) := by
  induction ys with
  | nil => exact ⟨List.Pairwise.nil, fun p => by simp [dd, withKey]⟩
  | cons x r ih =>
    rw [List.pairwise_cons] at h
    have ih := ih h.2
    cases r with
    | nil =>
      refine ⟨by simp [dd, RisesL], fun p => ?_⟩
      simp only [dd, List.mem_singleton, withKey]
      constructor
      · rintro rfl; simp
      · intro h
        by_cases e : x.1 = p.1
        · simp [e] at h; exact h.symm
        · simp [e] at h
    | cons y r =>
      have hp := List.pairwise_cons.1 h.2
      by_cases e : y.1 = x.1
      · have ed : dd (x :: y :: r) = dd (y :: r) := by rw [dd, if_pos e]
        rw [ed]
        refine ⟨ih.rises, fun p => ?_⟩
        rw [ih.mem p]
        have : (withKey (x :: y :: r) p.1).getLast? = (withKey (y :: r) p.1).getLast? := by
          by_cases ep : x.1 = p.1
          · have h1 : withKey (x :: y :: r) p.1 = x :: withKey (y :: r) p.1 := by simp [withKey, ep]
            have h2 : withKey (y :: r) p.1 = y :: withKey r p.1 := by simp [withKey, e, ep]
            rw [h1, h2]
            rw [List.getLast?_cons_cons]
          · have h1 : withKey (x :: y :: r) p.1 = withKey (y :: r) p.1 := by
              unfold withKey
              rw [List.filter_cons_of_neg (by simpa using ep)]
            rw [h1]
        rw [this]
      · have ed : dd (x :: y :: r) = x :: dd (y :: r) := by rw [dd, if_neg e]
        have hlt : ∀ q ∈ y :: r, Lt x.1 q.1 := by
          have hxy : Lt x.1 y.1 := by
            rcases (h.1 y (by simp)).lt_or_eq with h | h
            · exact h
            · exact absurd h.symm e
          intro q hq
          rcases List.mem_cons.1 hq with rfl | hq
          · exact hxy
          · exact hxy.trans_le (hp.1 q hq)
        rw [ed]
        refine ⟨?_, fun p => ?_⟩
        · unfold RisesL
          rw [List.pairwise_cons]
          exact ⟨fun q hq => hlt q (dd_mem hq), ih.rises⟩
        · by_cases ep : x.1 = p.1
          · have h2 : withKey (y :: r) p.1 = [] := by
              unfold withKey
              rw [List.filter_eq_nil_iff]
              intro q hq hqp
              simp at hqp
              exact (hlt q hq).ne (ep.trans hqp.symm)
            have h1 : withKey (x :: y :: r) p.1 = [x] := by
              have : withKey (x :: y :: r) p.1 = x :: withKey (y :: r) p.1 := by
                unfold withKey
                rw [List.filter_cons_of_pos (by simpa using ep)]
              rw [this, h2]
            rw [h1]
            simp only [List.mem_cons, List.getLast?_singleton, Option.some.injEq]
            constructor
            · rintro (rfl | hq)
              · rfl
              · exact absurd ep (hlt p (dd_mem hq)).ne
            · intro e; exact .inl e.symm
          · have h1 : withKey (x :: y :: r) p.1 = withKey (y :: r) p.1 := by
              unfold withKey
              rw [List.filter_cons_of_neg (by simpa using ep)]
            rw [h1, ← ih.mem p]
            simp only [List.mem_cons]
            constructor
            · rintro (rfl | hq)
              · exact absurd rfl ep
              · exact hq
            · exact .inr
theorem pairwise_of_srt {ys : List Pr} (h : Srt ys 0 ys.length) : ys.Pairwise fun p q => Le p.1 q.1 := by
  rw [List.pairwise_iff_getElem]
  intro i j hi hj hij
  have := h i j (Nat.zero_le _) hij hj
  unfold kat pat at this
  rw [List.getElem?_eq_getElem hi, List.getElem?_eq_getElem hj] at this
  exact this
end Go.Proofs.Ytgldgdpgbfejmaa
