/- Rows of strings; lists that have the same pairs. -/
import Derived.Test.YtfmbikmpobieoaaGreatMF
namespace Go.Proofs.YtfmbikmpobieoaaGreat
open Go.RowKit Go.Lib
set_option linter.unusedVariables false
set_option linter.unusedSimpArgs false
set_option maxRecDepth 100000
attribute [local irreducible] cnt
theorem rises_ext : ∀ {xs ys : List Pr}, RisesL xs → RisesL ys → (∀ p, p ∈ xs ↔ p ∈ ys) → xs = ys
  | [], [], _, _, _ => rfl
  | [], y :: ys, _, _, h => by have := (h y).2 (by simp); simp at this
  | x :: xs, [], _, _, h => by have := (h x).1 (by simp); simp at this
  | x :: xs, y :: ys, hx, hy, h => by
    have x1 := (List.pairwise_cons.1 hx).1
    have x2 := (List.pairwise_cons.1 hx).2
    have y1 := (List.pairwise_cons.1 hy).1
    have y2 := (List.pairwise_cons.1 hy).2
    have e : x = y := by
      rcases List.mem_cons.1 ((h x).1 (by simp)) with e | hm
      · exact e
      · rcases List.mem_cons.1 ((h y).2 (by simp)) with e | hm'
        · exact e.symm
        · exact absurd ((y1 x hm).trans (x1 y hm')) (fun h => h.ne rfl)
    subst e
    rw [rises_ext x2 y2 fun p => ?_]
    constructor
    · intro hp
      rcases List.mem_cons.1 ((h p).1 (List.mem_cons_of_mem _ hp)) with e | hm
      · subst e; exact absurd (x1 p hp) (fun h => h.ne rfl)
      · exact hm
    · intro hp
      rcases List.mem_cons.1 ((h p).2 (List.mem_cons_of_mem _ hp)) with e | hm
      · subst e; exact absurd (y1 p hp) (fun h => h.ne rfl)
      · exact hm
def scs (ks : List ByteArray) : List Value := ks.map Value.string
def OwnS (base : Nat) (w : World) (v : Value) (ks : List ByteArray) : Prop := w.ownsRow base 9 1 v ks.length (scs ks)
theorem OwnS.below {base : Nat} {w w' : World} {v : Value} {ks : List ByteArray} (h : OwnS base w v ks) (hb : Below w.heap.size w w') : OwnS base w' v ks := own_keep h (Keep.of_below (X := []) hb) (by simp)
theorem OwnS.nil (base : Nat) (w : World) : OwnS base w (.slice none 0 0) [] := ⟨rfl, .inl ⟨rfl, rfl⟩⟩
theorem info9 : (Tryz.prog.info? 9).map (fun i => (i.zero, i.size, i.bytes)) = some (some (.string ⟨#[]⟩), 1, 16) := by kernel_rfl
theorem zsz_str : (Value.cells (.string ⟨#[]⟩)).size = 1 := by simp [Value.cells]
theorem OwnS.at {base : Nat} {w : World} {v : Value} {ks : List ByteArray} (h : OwnS base w v ks) (j : Nat) (hj : j < ks.length) : ∃ g cap, v = .slice (some ⟨g, 0, none⟩) ks.length cap ∧ w.cell? ⟨g, j, none⟩ = some (.string ks[j]) ∧ w.frozen? ⟨g, j, none⟩ = false := by
  obtain ⟨g, cap, cur, e, _, hB, -⟩ := own_blk h (by omega)
  subst e
  have hh : w.ownsRow base 9 1 (.slice (some ⟨g, 0, none⟩) ks.length cap) ks.length (scs ks) := h
  refine ⟨g, cap, rfl, ?_, Blk.frozen hB j⟩
  rw [hh.cellAt _ (by omega)]
  simp [scs, hj]
theorem OwnS.form {base : Nat} {w : World} {v : Value} {ks : List ByteArray} (h : OwnS base w v ks) : ∃ A c, v = .slice A ks.length c := own_formN h
theorem OwnS.swap {base g cap : Nat} {w : World} {ks : List ByteArray} (h : OwnS base w (.slice (some ⟨g, 0, none⟩) ks.length cap) ks) (i j : Nat) (hi : i < ks.length) (hj : j < ks.length) :
    OwnS base ((w.setCell ⟨g, i, none⟩ (.string ks[j])).setCell ⟨g, j, none⟩ (.string ks[i])) (.slice (some ⟨g, 0, none⟩) ks.length cap) ((ks.set i ks[j]).set j ks[i]) := by
  have h' : w.ownsRow base 9 1 (.slice (some ⟨g, 0, none⟩) ks.length cap) ks.length (scs ks) := h
  have h1 := ((h'.stored i (.string ks[j])).1.stored j (.string ks[i])).1
  unfold OwnS
  rw [List.length_set, List.length_set]
  have e : scs ((ks.set i ks[j]).set j ks[i]) = ((scs ks).set i (.string ks[j])).set j (.string ks[i]) := by
    unfold scs
    rw [List.map_set, List.map_set]
  rw [e]; exact h1
theorem swap_mem {α : Type} {ks : List α} {i j : Nat} (hi : i < ks.length) (hj : j < ks.length) (k : α) : k ∈ (ks.set i ks[j]).set j ks[i] ↔ k ∈ ks := by
  constructor
  · intro h
    rcases List.mem_or_eq_of_mem_set h with h | rfl
    · rcases List.mem_or_eq_of_mem_set h with h | rfl
      · exact h
      · exact List.getElem_mem _
    · exact List.getElem_mem _
  · intro h
    obtain ⟨n, hn, e⟩ := List.getElem_of_mem h
    by_cases h1 : n = i
    · subst h1
      rw [List.mem_iff_getElem]
      exact ⟨j, by simpa using hj, by rw [List.getElem_set_self]; exact e⟩
    · by_cases h2 : n = j
      · subst h2
        rw [List.mem_iff_getElem]
        exact ⟨i, by simpa using hi, by rw [List.getElem_set_ne (by omega), List.getElem_set_self]; exact e⟩
      · rw [List.mem_iff_getElem]
        exact ⟨n, by simpa using hn, by rw [List.getElem_set_ne (by omega), List.getElem_set_ne (by omega)]; exact e⟩
theorem drop_key_mem {ps : List Pr} {k : ByteArray} {p : Pr} : p ∈ dropK ps k ↔ p ∈ ps ∧ p.1 ≠ k := drop_mem _ _ _
/-- a trie that stands, where a block of another kind is written -/
theorem NdV.noTy {base : Nat} {w : World} {b : Nat} {o : Value} {bk : Bool} {d nn : Nat} {pv kv : Value} {xs : List Pr} {ks : List Nat} (h : NdV base w b o bk d nn pv kv xs ks) {g : Nat} {cs : Array Value} {t : TypeId} (hb : Blk w g t cs) (h1 : t ≠ 109) (h2 : t ≠ 34) (h3 : t ≠ 30) : ∀ x ∈ foot b pv kv, x ≠ g := by
  rintro x hx rfl
  simp only [foot, List.mem_cons, List.mem_append, Option.mem_toList] at hx
  unfold Blk at hb
  rcases hx with rfl | e | e
  · have := h.blk; unfold Blk at this; rw [this] at hb; simp at hb; exact h1 hb.2.symm
  · obtain ⟨cur, hc⟩ := own_cells h.prs x e; rw [hc] at hb; simp at hb; exact h2 hb.2.symm
  · obtain ⟨cur, hc⟩ := own_cells h.kds x e; rw [hc] at hb; simp at hb; exact h3 hb.2.symm
theorem TV.noTy {w : World} {ow : Option Nat} {lo : Bool} (h : TV w ow lo) {g : Nat} {cs : Array Value} {t : TypeId} (hb : Blk w g t cs) (h4 : t ≠ 92) : ow ≠ some g := by
  rintro rfl
  rcases h with ⟨h, _⟩ | ⟨t', p, id, e, h⟩
  · cases h
  · cases e
    unfold Tok at h
    unfold Blk at h hb
    rw [h] at hb; simp at hb; exact h4 hb.2.symm
theorem TV.old {w : World} {t : Nat} {lo : Bool} (h : TV w (some t) lo) : t < w.heap.size := by
  rcases h with ⟨h, _⟩ | ⟨t', p, id, e, h⟩
  · cases h
  · cases e
    exact blk_lt h
theorem Trie.away {H : ByteArray → Nat} {base : Nat} {w : World} {g : Nat} {cs : Array Value} {t : TypeId} (hb : Blk w g t cs) (h1 : t ≠ 109) (h2 : t ≠ 34) (h3 : t ≠ 30) (h4 : t ≠ 92) : ∀ (n l b : Nat) (ps : List Pr) (F : Nat → Prop), Trie H (fun _ => False) none false base w n l b ps F → Trie H (fun x => x = g) none false base w n l b ps (fun _ => False)
  | 0, l, b, ps, F, h => by
    obtain ⟨ow, pv, kv, lo, hB, hv, hN⟩ := h
    exact ⟨ow, pv, kv, lo, hB, ⟨hv.tv, fun t e h => hv.tv.noTy hb h4 (by rw [e, h])⟩, fun e => by simp [ownB] at e, fun _ => ⟨fun x hx => hB.1.noTy hb h1 h2 h3 x hx, fun _ h => h, fun _ _ _ h => h⟩⟩
  | n + 1, l, b, ps, F, h => by
    obtain ⟨ow, pv, kv, lo, S, Fs, hI, hv, hN, hS⟩ := h
    refine ⟨ow, pv, kv, lo, S, fun _ _ => False, hI, ⟨hv.tv, fun t e h => hv.tv.noTy hb h4 (by rw [e, h])⟩, ⟨fun e => by simp [ownB] at e, fun _ => ⟨fun x hx => ?_, fun _ h => h, fun _ _ _ h => h⟩⟩, fun c hc => ?_⟩
    · obtain ⟨d, nn, hN', -, -⟩ := hI
      exact hN'.noTy hb h1 h2 h3 x hx
    have := hS c hc
    unfold SlotIs at this ⊢
    cases hs : S c with
    | no => rw [hs] at this; exact ⟨this.1, fun _ h => h⟩
    | pr p => rw [hs] at this; exact ⟨this.1, fun _ h => h⟩
    | kd k => rw [hs] at this; exact ⟨this.1, Trie.away hb h1 h2 h3 h4 n (l + 1) k _ _ this.2⟩
theorem TP.apart {k0 k1 m : Int} {base : Nat} {w w' : World} {b : Nat} {ps : List Pr} (h : TP k0 k1 m base w b ps) {g : Nat} {cs : Array Value} {t : TypeId} (hb : Blk w g t cs) (h1 : t ≠ 109) (h2 : t ≠ 34) (h3 : t ≠ 30) (h4 : t ≠ 92) (hk : Keep [g] w w') : TP k0 k1 m base w' b ps := by
  have hK : KeepF (fun x => x = g) w w' := (KeepF.ofKeep hk).mono fun x hx => .inl (by simpa using hx)
  have hT : ∀ t' l, TV w t' l → TV w' t' l := fun t' l hv => hv.keepF hK fun x hx cs' hB => by
    subst hx
    unfold Blk at hb hB
    rw [hb] at hB
    simp at hB
    exact h4 hB.2
  exact Trie.forget _ _ _ _ _ (Trie.keep hT 13 0 b ps _ (fun x => x = g) (Trie.away hb h1 h2 h3 h4 13 0 b ps _ h) hK (fun _ _ h => h) (fun _ h => h)) none
theorem OwnR.below' {base : Nat} {w w' : World} {v : Value} {xs : List Pr} (h : OwnR base w v xs) (hb : Below w.heap.size w w') : OwnR base w' v xs := own_keep h (Keep.of_below (X := []) hb) (by simp)
theorem OwnR.nil (base : Nat) (w : World) : OwnR base w (.slice none 0 0) [] := ⟨rfl, .inl ⟨rfl, rfl⟩⟩
theorem Keep.two (w : World) (g i j : Nat) (u v : Value) : Keep [g] w ((w.setCell ⟨g, i, none⟩ u).setCell ⟨g, j, none⟩ v) := ((Keep.refl [g] w).setCell (p := ⟨g, i, none⟩) (by simp) u).setCell (p := ⟨g, j, none⟩) (by simp) v
end Go.Proofs.YtfmbikmpobieoaaGreat
