/- The ids of the tokens that are live, and the queue: together they are the ids 1 to k, each once. -/
import Derived.Test.YtfipifjlmepooaaTg
namespace Go.Proofs.Ytfipifjlmepooaa
open Go.RowKit Go.Conc
set_option linter.unusedVariables false
set_option linter.unusedSimpArgs false

/-- the ids of those that are live -/
def lids (L : TL) : List Nat := (L.filter (·.2.2)).map (·.2.1)
theorem lids_append (L M : TL) : lids (L ++ M) = lids L ++ lids M := by simp [lids]
theorem lids_cons (x : Nat × Nat × Bool) (L : TL) : lids (x :: L) = (if x.2.2 then [x.2.1] else []) ++ lids L := by
  unfold lids
  rw [List.filter_cons]
  split <;> simp
theorem lids_set (L : TL) (j : Nat) (x : Nat × Nat × Bool) (hj : L[j]? = some x) (hx : x.2.2 = true) : (lids L).Perm (x.2.1 :: lids (L.set j (x.1, x.2.1, false))) := by
  induction L generalizing j with
  | nil => simp at hj
  | cons y L ih =>
    cases j with
    | zero =>
      simp at hj
      subst hj
      rw [List.set_cons_zero, lids_cons, lids_cons, hx]
      simp
    | succ j =>
      simp at hj
      rw [List.set_cons_succ, lids_cons, lids_cons]
      refine (List.Perm.append_left _ (ih j hj)).trans ?_
      exact List.perm_middle
theorem lids_take_succ (L : TL) (j : Nat) (x : Nat × Nat × Bool) (hj : L[j]? = some x) : lids (L.take (j + 1)) = lids (L.take j) ++ (if x.2.2 then [x.2.1] else []) := by
  obtain ⟨hl, he⟩ := List.getElem?_eq_some_iff.1 hj
  rw [List.take_succ_eq_append_getElem hl, lids_append, he]
  congr 1
  rw [lids_cons]
  simp [lids]
theorem lids_take_le (L : TL) (j : Nat) : (lids (L.take j)).length ≤ j := by
  unfold lids
  rw [List.length_map]
  exact Nat.le_trans (List.length_filter_le _ _) (by rw [List.length_take]; omega)
/-- queue and live ids are all ids, each once; each token has one of them -/
structure Fair (k : Nat) (q : List Nat) (L : TL) : Prop where
  perm : (q ++ lids L).Perm (upto k)
  ids : ∀ x ∈ L, 1 ≤ x.2.1 ∧ x.2.1 ≤ k
theorem Fair.start (k : Nat) : Fair k (upto k) [] := ⟨by simp [lids], by simp⟩
theorem mem_upto (k i : Nat) : i ∈ upto k ↔ 1 ≤ i ∧ i ≤ k := by
  unfold upto
  rw [List.mem_range'_1]; omega
theorem Fair.len {k : Nat} {q : List Nat} {L : TL} (h : Fair k q L) : q.length + (lids L).length = k := by
  have := h.perm.length_eq
  rw [List.length_append, upto_length] at this
  exact this
theorem Fair.take {k i : Nat} {q : List Nat} {L : TL} (h : Fair k (i :: q) L) (t : Nat) : Fair k q (L ++ [(t, i, true)]) := by
  constructor
  · rw [lids_append, lids_cons]
    simp only [if_true, lids, List.filter_nil, List.map_nil, List.append_nil]
    refine List.Perm.trans ?_ h.perm
    rw [← List.append_assoc]
    refine (List.perm_append_comm).trans ?_
    simp [lids]
  · intro x hx
    rcases List.mem_append.1 hx with hx | hx
    · exact h.ids x hx
    · simp only [List.mem_cons, List.not_mem_nil, or_false] at hx
      subst hx
      exact (mem_upto k i).1 (h.perm.mem_iff.1 (by simp))
theorem Fair.end_ {k : Nat} {q : List Nat} {L : TL} (h : Fair k q L) (j : Nat) (x : Nat × Nat × Bool) (hj : L[j]? = some x) (hx : x.2.2 = true) : Fair k (q ++ [x.2.1]) (L.set j (x.1, x.2.1, false)) ∧ q.length < k ∧ 0 < (lids L).length := by
  have hp := lids_set L j x hj hx
  have hlen := hp.length_eq
  have hl := h.len
  rw [List.length_cons] at hlen
  refine ⟨⟨?_, ?_⟩, by omega, by omega⟩
  · refine List.Perm.trans ?_ h.perm
    rw [List.append_assoc]
    refine List.Perm.append_left _ ?_
    exact hp.symm
  · intro y hy
    rcases List.mem_or_eq_of_mem_set hy with hy | rfl
    · exact h.ids y hy
    · exact h.ids x (List.mem_of_getElem? hj)
theorem Fair.nodup {k : Nat} {q : List Nat} {L : TL} (h : Fair k q L) : (lids L).Nodup := by
  have h1 : (upto k).Nodup := by
    unfold upto
    exact List.nodup_range'
  have h2 := (h.perm.nodup_iff).2 h1
  exact (List.nodup_append.1 h2).2.1
/-- the id of a live token is none of those ahead of it -/
theorem Fair.fresh {k : Nat} {q : List Nat} {L : TL} (h : Fair k q L) (j : Nat) (x : Nat × Nat × Bool) (hj : L[j]? = some x) (hx : x.2.2 = true) : x.2.1 ∉ lids (L.take j) := by
  have hn := h.nodup
  obtain ⟨hl, he⟩ := List.getElem?_eq_some_iff.1 hj
  have e : L = L.take j ++ (x :: L.drop (j + 1)) := by
    rw [← he, ← List.drop_eq_getElem_cons hl, List.take_append_drop]
  rw [e, lids_append, lids_cons, hx] at hn
  have := (List.nodup_append.1 hn).2.2
  intro hm
  exact this _ hm _ (by simp) rfl
end Go.Proofs.Ytfipifjlmepooaa
