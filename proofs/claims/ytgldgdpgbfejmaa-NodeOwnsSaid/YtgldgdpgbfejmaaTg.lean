/- Rotated queues, swapped tokens, rows of arguments. -/
import Derived.Test.YtgldgdpgbfejmaaTf
import Derived.OpenShut
namespace Go.Proofs.Ytgldgdpgbfejmaa
open Go.RowKit Go.Conc Go.ChangeShapes Go.WideShapes
set_option linter.unusedVariables false
set_option linter.unusedSimpArgs false

/-- the row of ids, turned by i -/
def rot (k i : Nat) : List Nat := (List.range k).map fun m => 1 + (i + m) % k
theorem rot_length (k i : Nat) : (rot k i).length = k := by simp [rot]
theorem rot_zero (k : Nat) : rot k 0 = upto k := by
  apply List.ext_getElem (by simp [rot, upto])
  intro n h1 h2
  simp [rot] at h1
  simp only [rot, upto, List.getElem_map, List.getElem_range, List.getElem_range', Nat.zero_add, Nat.one_mul]
  rw [Nat.mod_eq_of_lt h1]
theorem rot_cons (k i : Nat) (h : 1 ≤ k) : ∃ tl, rot k i = (1 + i % k) :: tl ∧ tl ++ [1 + i % k] = rot k (i + 1) ∧ tl.length < k := by
  obtain ⟨m, rfl⟩ : ∃ m, k = m + 1 := ⟨k - 1, by omega⟩
  refine ⟨(List.range m).map fun j => 1 + (i + (j + 1)) % (m + 1), ?_, ?_, by simp⟩
  · unfold rot
    rw [List.range_succ_eq_map, List.map_cons, List.map_map]
    rfl
  · unfold rot
    rw [List.range_succ, List.map_append]
    congr 1
    · apply List.map_congr_left
      intro a _
      rw [show i + (a + 1) = i + 1 + a by omega]
    · simp only [List.map_cons, List.map_nil]
      rw [show i + 1 + m = i + (m + 1) by omega, Nat.add_mod_right]

/-- a slice of numbers that was handed in -/
def IsRow (k : IntKind) (w : World) (a : Option Addr) (len cap : Nat) (zs : List Int) : Prop :=
  (a = none ∧ len = 0 ∧ cap = 0 ∧ zs = []) ∨
  ∃ x, a = some x ∧ len ≤ cap ∧ cap ≤ maxLen ∧ zs.length = cap ∧ (∀ i, i < zs.length → w.cell? (x.add i) = some (.int k (zs.getD i 0))) ∧ ∀ n ∈ zs, (Lit.int k n).wf = true
theorem IsRow.at {w wr : World} {a : Option Addr} {len cap : Nat} {zs : List Int} (h : IsRow .u8 w a len cap zs) (hB : Below w.heap.size w wr) (j : Nat) (hj : j < len) :
    ∃ x z, a = some x ∧ wr.cell? (x.add j) = some (.int .u8 z) ∧ 0 ≤ z ∧ z ≤ 255 := by
  rcases h with ⟨_, h, _⟩ | ⟨x, rfl, hl, hm, hz, hcell, hwz⟩
  · omega
  · have hc := hcell j (by omega)
    have hw := hwz (zs.getD j 0) (by rw [List.getD_eq_getElem?_getD, List.getElem?_eq_getElem (by omega : j < zs.length)]; exact List.getElem_mem _)
    have hb := bounds_u8 hw
    exact ⟨x, _, rfl, (hB.cell (World.block_lt_of_cell? w _ hc)).trans hc, hb.1, hb.2⟩
theorem IsRow.len_le {w : World} {a : Option Addr} {len cap : Nat} {zs : List Int} (h : IsRow .u8 w a len cap zs) : len ≤ 9223372036854775807 := by
  rcases h with ⟨_, h, _⟩ | ⟨x, rfl, hl, hm, hz, hcell, hwz⟩
  · omega
  · unfold maxLen at hm; omega

/-- all of them are live, from the m-th on -/
def LiveFrom (m : Nat) (L : TL) : Prop := ∀ (i : Nat) (x : Nat × Nat × Bool), L[i]? = some x → m ≤ i → x.2.2 = true
theorem liveFrom_snoc {L : TL} (h : LiveFrom 0 L) (t i : Nat) : LiveFrom 0 (L ++ [(t, i, true)]) := by
  intro j x hx _
  rw [List.getElem?_append] at hx
  split at hx
  · exact h j x hx (Nat.zero_le _)
  · rw [List.getElem?_singleton] at hx
    split at hx
    · obtain rfl := Option.some.inj hx; rfl
    · cases hx
theorem liveFrom_set {L : TL} {m : Nat} (h : LiveFrom m L) (y : Nat × Nat × Bool) : LiveFrom (m + 1) (L.set m y) := by
  intro j x hx hj
  rw [List.getElem?_set_ne (by omega)] at hx
  exact h j x hx (by omega)
theorem liveFrom_swap {L : TL} (h : LiveFrom 0 L) {i j : Nat} {x y : Nat × Nat × Bool} (hx : L[i]? = some x) (hy : L[j]? = some y) : LiveFrom 0 ((L.set i y).set j x) := by
  intro n z hz _
  rw [List.getElem?_set] at hz
  split at hz
  · split at hz
    · obtain rfl := Option.some.inj hz; exact h i _ hx (Nat.zero_le _)
    · cases hz
  · rw [List.getElem?_set] at hz
    split at hz
    · split at hz
      · obtain rfl := Option.some.inj hz; exact h j _ hy (Nat.zero_le _)
      · cases hz
    · exact h n z hz (Nat.zero_le _)
/-- two of them change places -/
theorem Toks.swap {base : Nat} {w : World} {p g cap : Nat} {L : TL} (h : Toks base w p (.slice (some ⟨g, 0, none⟩) L.length cap) L) {i j : Nat} {x y : Nat × Nat × Bool} (hx : L[i]? = some x) (hy : L[j]? = some y) :
    Toks base ((w.setCell ⟨g, i, none⟩ (at0 y.1)).setCell ⟨g, j, none⟩ (at0 x.1)) p (.slice (some ⟨g, 0, none⟩) L.length cap) ((L.set i y).set j x) := by
  obtain ⟨hil, hix⟩ := List.getElem?_eq_some_iff.1 hx
  obtain ⟨hjl, hjy⟩ := List.getElem?_eq_some_iff.1 hy
  have h1 := h.row.stored i (at0 y.1)
  have h2 := h1.1.stored j (at0 x.1)
  have hperm : ((L.set i y).set j x).Perm L := by
    have := List.set_set_perm (i := i) (j := j) hil hjl
    rwa [hix, hjy] at this
  have hno : ∀ t ∈ L, t.1 ≠ g := fun t ht e => by
    obtain ⟨cur, hcur⟩ := own_cells h.row g rfl
    have := (h.tok t ht).1.no57 cur
    rw [e] at this
    exact this hcur
  refine ⟨?_, ?_, ?_⟩
  · rw [List.length_set, List.length_set, List.map_set, List.map_set]
    exact h2.1
  · intro z hz
    have hzL := hperm.mem_iff.1 hz
    have := h.tok z hzL
    exact ⟨Blk.far (Blk.far this.1 (hno z hzL) _) (hno z hzL) _, this.2⟩
  · exact ((hperm.map (·.1)).nodup_iff).2 h.nd
theorem Pool.setRow {base : Nat} {w : World} {p c k n g off : Nat} {out : Int} {q : List Nat} {v : Value} {xs : List Value} (h : Pool w p c k out q) (hrow : w.ownsRow base 64 1 v n xs) (hg : v.ownBlock = some g) (u : Value) : Pool (w.setCell ⟨g, off, none⟩ u) p c k out q := by
  have hn := fun cur => h.no57 cur
  obtain ⟨hb, s, r, hc⟩ := h
  obtain ⟨cur, hcur⟩ := own_cells hrow g hg
  refine ⟨Blk.far hb (fun e => ?_) u, s, r, (Below.heap_setCell w ⟨g, off, none⟩ u c (fun e => ?_)).trans hc⟩
  · simp at e; subst e; exact (hn cur).1 hcur
  · simp at e; subst e; exact (hn cur).2 hcur
end Go.Proofs.Ytgldgdpgbfejmaa
