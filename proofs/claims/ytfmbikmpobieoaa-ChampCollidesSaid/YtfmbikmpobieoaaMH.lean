/- Tries: plain mathematics of the pairs that a chunk has. -/
import Derived.Test.YtfmbikmpobieoaaMR
import Derived.Test.YtfmbikmpobieoaaMS
import Derived.Test.YtfmbikmpobieoaaMQb
namespace Go.Proofs.Ytfmbikmpobieoaa
open Go.RowKit Go.Lib
set_option linter.unusedVariables false
set_option maxRecDepth 100000
set_option linter.unusedSimpArgs false
/-- the chunk of a key at a level -/
def chk (H : ByteArray → Nat) (l : Nat) (k : ByteArray) : Nat := H k / 32 ^ l % 32
theorem chk_lt (H : ByteArray → Nat) (l : Nat) (k : ByteArray) : chk H l k < 32 := Nat.mod_lt _ (by decide)
/-- the pairs of a chunk -/
def sub (H : ByteArray → Nat) (l c : Nat) (ps : List Pr) : List Pr := ps.filter fun p => decide (chk H l p.1 = c)
section
variable {H : ByteArray → Nat} {l c : Nat} {ps : List Pr}
theorem sub_mem {x : Pr} : x ∈ sub H l c ps ↔ x ∈ ps ∧ chk H l x.1 = c := by simp [sub]
theorem sub_rises (h : RisesL ps) : RisesL (sub H l c ps) := List.Pairwise.filter _ h
theorem sub_len : (sub H l c ps).length ≤ ps.length := List.length_filter_le _ _
theorem insK_cons (p q : Pr) (r : List Pr) : insK p (q :: r) = if ltB p.1 q.1 = true then p :: q :: r else q :: insK p r := rfl
theorem insK_low {p : Pr} : ∀ {D : List Pr}, (∀ x ∈ D, ltB p.1 x.1 = true) → insK p D = p :: D
  | [], _ => rfl
  | q :: r, h => by rw [insK_cons, if_pos (h q (by simp))]
/-- keeping some of a rising list, and one more pair, in either order -/
theorem filter_ins {f : Pr → Bool} {p : Pr} (hp : f p = true) : ∀ {D : List Pr}, RisesL D → (insK p D).filter f = insK p (D.filter f)
  | [], _ => by simp [insK, hp]
  | q :: r, h => by
    have hr : RisesL r := (List.pairwise_cons.1 h).2
    have hq := (List.pairwise_cons.1 h).1
    rw [insK_cons]
    by_cases hlt : ltB p.1 q.1 = true
    · rw [if_pos hlt, List.filter_cons, if_pos hp]
      have hall : ∀ x ∈ (q :: r).filter f, ltB p.1 x.1 = true := fun x hx => by
        have hx' := (List.mem_filter.1 hx).1
        rcases List.mem_cons.1 hx' with rfl | hx'
        · exact hlt
        · exact (ltB_iff _ _).2 (((ltB_iff _ _).1 hlt).trans (hq x hx'))
      rw [insK_low hall]
    · rw [if_neg hlt, List.filter_cons]
      by_cases hf : f q = true
      · rw [if_pos hf, List.filter_cons, if_pos hf, filter_ins hp hr]
        rw [insK_cons, if_neg hlt]
      · rw [if_neg hf, List.filter_cons, if_neg hf, filter_ins hp hr]
theorem filter_ins_no {f : Pr → Bool} {p : Pr} (hp : ¬ f p = true) : ∀ {D : List Pr}, (insK p D).filter f = D.filter f
  | [] => by simp [insK, hp]
  | q :: r => by
    rw [insK_cons]
    split
    · rw [List.filter_cons, if_neg hp]
    · rw [List.filter_cons, List.filter_cons, filter_ins_no hp]
theorem filter_drop (f : Pr → Bool) (ps : List Pr) (k : ByteArray) : (dropK ps k).filter f = dropK (ps.filter f) k := by
  unfold dropK
  rw [List.filter_filter, List.filter_filter]
  congr 1; funext x; exact Bool.and_comm _ _
theorem drop_other {k : ByteArray} (h : ∀ x ∈ ps, x.1 ≠ k) : dropK ps k = ps := by
  unfold dropK
  rw [List.filter_eq_self]
  intro x hx
  simp only [Bool.not_eq_true', beq_eq_false_iff_ne, ne_eq]
  exact fun e => h x hx (bytes_ext (by rw [← ByteArray.toList_eq, ← ByteArray.toList_eq]; exact e))
theorem sub_drop (k : ByteArray) : sub H l c (dropK ps k) = dropK (sub H l c ps) k := filter_drop _ _ _
theorem sub_drop_other {k : ByteArray} (h : chk H l k ≠ c) : sub H l c (dropK ps k) = sub H l c ps := by
  rw [sub_drop, drop_other]
  rintro x hx rfl
  exact h (sub_mem.1 hx).2
theorem sub_put {p : Pr} (hr : RisesL ps) (h : chk H l p.1 = c) : sub H l c (putK ps p) = putK (sub H l c ps) p := by
  unfold putK
  rw [← sub_drop]
  exact filter_ins (by simp [h]) (drop_rises _ _ hr)
theorem sub_put_other {p : Pr} (h : chk H l p.1 ≠ c) : sub H l c (putK ps p) = sub H l c ps := by
  unfold putK
  rw [← sub_drop_other (ps := ps) h]
  exact filter_ins_no (by simp [h])
/-- a key's value -/
def getK (ps : List Pr) (k : ByteArray) : Option ByteArray := (ps.find? fun p => decide (p.1 = k)).map (·.2)
theorem getK_sub {k : ByteArray} (h : chk H l k = c) : getK (sub H l c ps) k = getK ps k := by
  unfold getK sub
  rw [List.find?_filter]
  congr 1
  congr 1; funext p
  by_cases e : p.1 = k
  · simp [e, h]
  · simp [e]
theorem getK_mem {k v : ByteArray} (h : getK ps k = some v) : (k, v) ∈ ps := by
  unfold getK at h
  cases hf : ps.find? (fun p => decide (p.1 = k)) with
  | none => rw [hf] at h; simp at h
  | some p =>
    rw [hf] at h
    have h1 := List.mem_of_find?_eq_some hf
    have h2 := List.find?_some hf
    simp at h h2
    rw [← h, ← h2]; exact h1
theorem getK_none {k : ByteArray} : getK ps k = none ↔ ∀ x ∈ ps, x.1 ≠ k := by
  unfold getK
  simp [List.find?_eq_none]
theorem rises_key {x y : Pr} (h : RisesL ps) (hx : x ∈ ps) (hy : y ∈ ps) (e : x.1 = y.1) : x = y := by
  induction ps with
  | nil => simp at hx
  | cons q r ih =>
    have h1 := (List.pairwise_cons.1 h).1
    have h2 := (List.pairwise_cons.1 h).2
    rcases List.mem_cons.1 hx with rfl | hx' <;> rcases List.mem_cons.1 hy with rfl | hy'
    · rfl
    · exact absurd e (h1 y hy').ne
    · exact absurd e.symm (h1 x hx').ne
    · exact ih h2 hx' hy'
theorem getK_of_mem {x : Pr} (h : RisesL ps) (hx : x ∈ ps) : getK ps x.1 = some x.2 := by
  cases hg : getK ps x.1 with
  | none => exact absurd rfl (getK_none.1 hg x hx)
  | some v =>
    have := rises_key h (getK_mem hg) hx rfl
    rw [← this]
theorem put_sets {p x : Pr} : x ∈ putK ps p ↔ x = p ∨ (x ∈ ps ∧ x.1 ≠ p.1) := by
  unfold putK
  rw [ins_mem, drop_mem]
theorem ins_len (p : Pr) : ∀ D : List Pr, (insK p D).length = D.length + 1
  | [] => rfl
  | q :: r => by rw [insK_cons]; split <;> simp [ins_len p r]
theorem put_len (p : Pr) : (putK ps p).length ≤ ps.length + 1 := by
  unfold putK
  rw [ins_len]
  have : (dropK ps p.1).length ≤ ps.length := List.length_filter_le _ _
  omega
/-- a pair that is there is put once more: nothing changes -/
theorem ins_drop {p : Pr} : ∀ {ps : List Pr}, RisesL ps → p ∈ ps → insK p (dropK ps p.1) = ps
  | [], _, h => by simp at h
  | q :: r, hr, h => by
    have h1 := (List.pairwise_cons.1 hr).1
    have h2 := (List.pairwise_cons.1 hr).2
    rcases List.mem_cons.1 h with rfl | h'
    · have e : dropK (p :: r) p.1 = r := by
        have : dropK (p :: r) p.1 = dropK r p.1 := by simp [dropK]
        rw [this, drop_other]
        exact fun x hx e => (h1 x hx).ne e.symm
      rw [e]
      exact insK_low fun x hx => (ltB_iff _ _).2 (h1 x hx)
    · have hne : q.1 ≠ p.1 := (h1 p h').ne
      have e : dropK (q :: r) p.1 = q :: dropK r p.1 := by
        unfold dropK
        rw [List.filter_cons, if_pos]
        simp only [Bool.not_eq_true', beq_eq_false_iff_ne, ne_eq]
        exact fun e => hne (bytes_ext (by rw [← ByteArray.toList_eq, ← ByteArray.toList_eq]; exact e))
      rw [e]
      rw [insK_cons, if_neg, ins_drop h2 h']
      intro hlt
      exact (h1 p h').asymm ((ltB_iff _ _).1 hlt).le
theorem put_same {p : Pr} (hr : RisesL ps) (h : getK ps p.1 = some p.2) : putK ps p = ps := ins_drop hr (getK_mem h)
theorem drop_none {k : ByteArray} (h : getK ps k = none) : dropK ps k = ps := drop_other (getK_none.1 h)
theorem one_of {p : Pr} (h : ps.length = 1) (hm : p ∈ ps) : ps = [p] := by
  match ps, h with
  | [q], _ => simp at hm; rw [hm]
theorem put_one {p q : Pr} (h : q.1 = p.1) : putK [q] p = [p] := by
  have : dropK [q] p.1 = [] := by simp [dropK, h]
  unfold putK; rw [this]; rfl
theorem put_two {p q : Pr} (h : q.1 ≠ p.1) : (putK [q] p).length = 2 := by
  unfold putK
  rw [ins_len, drop_other (by simpa using h)]; rfl
theorem put_len_ge {p : Pr} : ps.length ≤ (putK ps p).length ∨ ∃ x ∈ ps, x.1 = p.1 := by
  by_cases h : ∃ x ∈ ps, x.1 = p.1
  · exact .inr h
  · refine .inl ?_
    unfold putK
    rw [ins_len, drop_other (fun x hx e => h ⟨x, hx, e⟩)]; omega
theorem drop_len_ge {k : ByteArray} (hr : RisesL ps) : ps.length ≤ (dropK ps k).length + 1 := by
  induction ps with
  | nil => simp
  | cons q r ih =>
    have h1 := (List.pairwise_cons.1 hr).1
    have h2 := (List.pairwise_cons.1 hr).2
    by_cases e : q.1 = k
    · have : dropK (q :: r) k = r := by
        have h3 : dropK (q :: r) k = dropK r k := by simp [dropK, e]
        rw [h3, drop_other]
        exact fun x hx e' => (h1 x hx).ne (e.trans e'.symm)
      rw [this]; simp
    · have : dropK (q :: r) k = q :: dropK r k := by
        unfold dropK
        rw [List.filter_cons, if_pos]
        simp only [Bool.not_eq_true', beq_eq_false_iff_ne, ne_eq]
        exact fun e' => e (bytes_ext (by rw [← ByteArray.toList_eq, ← ByteArray.toList_eq]; exact e'))
      rw [this]
      have := ih h2
      simp; omega
theorem put_len_two {p : Pr} (hr : RisesL ps) (h : 2 ≤ ps.length) : 2 ≤ (putK ps p).length := by
  unfold putK
  rw [ins_len]
  have := drop_len_ge (k := p.1) hr
  omega
end
end Go.Proofs.Ytfmbikmpobieoaa
/- Tries in memory: what each node has, and who may change it. -/
namespace Go.Proofs.Ytfmbikmpobieoaa
open Go.RowKit Go.Lib
set_option linter.unusedVariables false
set_option maxRecDepth 100000
set_option linter.unusedSimpArgs false
/-- blocks that F does not name stay -/
structure KeepF (F : Nat → Prop) (w w' : World) : Prop where
  all : Below 0 w w'
  block : ∀ b, b < w.heap.size → ¬ F b → w'.heap[b]? = w.heap[b]?
section
variable {F G : Nat → Prop} {w w' w1 w2 : World}
theorem KeepF.refl (F : Nat → Prop) (w : World) : KeepF F w w := ⟨Below.refl _ _, fun _ _ _ => rfl⟩
theorem KeepF.size (h : KeepF F w w') : w.heap.size ≤ w'.heap.size := h.all.size
theorem KeepF.trans (h : KeepF F w w1) (k : KeepF F w1 w2) : KeepF F w w2 :=
  ⟨h.all.trans k.all, fun b hb hF => (k.block b (Nat.lt_of_lt_of_le hb h.size) hF).trans (h.block b hb hF)⟩
theorem KeepF.mono (h : KeepF F w w') (hs : ∀ x, F x → G x ∨ w.heap.size ≤ x) : KeepF G w w' :=
  ⟨h.all, fun b hb hG => h.block b hb fun hF => by
    rcases hs b hF with hg | hg
    · exact hG hg
    · omega⟩
theorem KeepF.ofKeep {X : List Nat} (h : Keep X w w') : KeepF (· ∈ X) w w' := ⟨h.all, h.block⟩
theorem KeepF.keep (h : KeepF F w w') : ∃ X : List Nat, Keep X w w' ∧ ∀ x ∈ X, F x := by
  classical
  refine ⟨(List.range w.heap.size).filter fun b => decide (F b), ⟨h.all, fun b hb hx => h.block b hb fun hF => hx ?_⟩, fun x hx => ?_⟩
  · rw [List.mem_filter, List.mem_range]; exact ⟨hb, by simp [hF]⟩
  · simpa using (List.mem_filter.1 hx).2
theorem KeepF.ofBelow (h : Below w.heap.size w w') : KeepF F w w' := ⟨h.mono (Nat.zero_le _), fun b hb _ => h.block b hb⟩
theorem KeepF.below (h : KeepF F w w') (hF : ∀ x, ¬ F x) : Below w.heap.size w w' := by
  obtain ⟨X, hk, hX⟩ := h.keep
  exact hk.below (Nat.le_refl _) (fun x hx => absurd (hX x hx) (hF x))
theorem KeepF.belowAt {base : Nat} (h : KeepF F w w') (hF : ∀ x, F x → base ≤ x) (hb : base ≤ w.heap.size) : Below base w w' := by
  obtain ⟨X, hk, hX⟩ := h.keep
  exact hk.below hb (fun x hx => hF x (hX x hx))
end
/-- a token, or nil, that is none of X -/
structure TVX (X : Nat → Prop) (w : World) (ow : Option Nat) (lo : Bool) : Prop where
  tv : TV w ow lo
  no : ∀ t, ow = some t → ¬ X t
theorem TVX.below {X : Nat → Prop} {w w' : World} {ow : Option Nat} {lo : Bool} (h : TVX X w ow lo) (hb : Below w.heap.size w w') : TV w' ow lo := h.tv.below hb
/-- which blocks of a trie are a token's own -/
structure NodeF (X : Nat → Prop) (own : Bool) (ft : List Nat) (Fs : Nat → Nat → Prop) (F : Nat → Prop) : Prop where
  yes : own = true → (∀ x ∈ ft, X x) ∧ (∀ x, F x ↔ x ∈ ft ∨ ∃ c, c < 32 ∧ Fs c x) ∧ (∀ c x, c < 32 → Fs c x → x ∉ ft) ∧ (∀ c c' x, c < 32 → c' < 32 → Fs c x → Fs c' x → c = c')
  no : own = false → (∀ x ∈ ft, ¬ X x) ∧ (∀ x, ¬ F x) ∧ ∀ c x, c < 32 → ¬ Fs c x
/-- what a chunk has of its pairs -/
def SlotIs (T : Nat → List Pr → (Nat → Prop) → Prop) (s : Sl) (qs : List Pr) (G : Nat → Prop) : Prop :=
  match s with
  | .no => qs = [] ∧ ∀ x, ¬ G x
  | .pr p => qs = [p] ∧ ∀ x, ¬ G x
  | .kd k => 2 ≤ qs.length ∧ T k qs G
/-- the trie of pairs, n levels above the buckets -/
def Trie (H : ByteArray → Nat) (X : Nat → Prop) (tk : Option Nat) (lv : Bool) (base : Nat) (w : World) : Nat → Nat → Nat → List Pr → (Nat → Prop) → Prop
  | 0, l, b, ps, F => ∃ ow pv kv lo, Bck base w b ow ps pv kv ∧ TVX X w ow lo ∧ NodeF X (ownB ow tk lv) (foot b pv kv) (fun _ _ => False) F
  | n + 1, l, b, ps, F => ∃ ow pv kv lo S Fs, Inn base w b ow S pv kv ∧ TVX X w ow lo ∧ NodeF X (ownB ow tk lv) (foot b pv kv) Fs F ∧
      ∀ c, c < 32 → SlotIs (fun k qs G => Trie H X tk lv base w n (l + 1) k qs G) (S c) (sub H l c ps) (Fs c)
section
variable {H : ByteArray → Nat} {X F G : Nat → Prop} {tk : Option Nat} {lv : Bool} {base : Nat} {w w' : World}
theorem NodeF.inX {own : Bool} {ft : List Nat} {Fs : Nat → Nat → Prop} (h : NodeF X own ft Fs F) (hs : ∀ c x, c < 32 → Fs c x → X x) : ∀ x, F x → X x := fun x hx => by
  cases own with
  | false => exact absurd hx ((h.no rfl).2.1 x)
  | true =>
    obtain ⟨h1, h2, -, -⟩ := h.yes rfl
    rcases (h2 x).1 hx with hx | ⟨c, hc, hx⟩
    · exact h1 x hx
    · exact hs c x hc hx
/-- a node's blocks, where G is none of the trie's own -/
theorem NodeF.apart {own : Bool} {ft : List Nat} {Fs : Nat → Nat → Prop} (h : NodeF X own ft Fs F) (h1 : ∀ x, G x → ¬ F x) (h2 : ∀ x, G x → X x) : (∀ x ∈ ft, ¬ G x) ∧ ∀ c x, c < 32 → G x → ¬ Fs c x := by
  cases own with
  | false =>
    obtain ⟨a, -, b⟩ := h.no rfl
    exact ⟨fun x hx hG => a x hx (h2 x hG), fun c x hc _ => b c x hc⟩
  | true =>
    obtain ⟨-, a, -, -⟩ := h.yes rfl
    exact ⟨fun x hx hG => h1 x hG ((a x).2 (.inl hx)), fun c x hc hG hx => h1 x hG ((a x).2 (.inr ⟨c, hc, hx⟩))⟩
theorem Trie.keep (hT : ∀ t l, TV w t l → TV w' t l) : ∀ (n l b : Nat) (ps : List Pr) (F G : Nat → Prop), Trie H X tk lv base w n l b ps F → KeepF G w w' → (∀ x, G x → ¬ F x) → (∀ x, G x → X x) → Trie H X tk lv base w' n l b ps F
  | 0, l, b, ps, F, G, h, hk, h1, h2 => by
    obtain ⟨ow, pv, kv, lo, hB, hv, hN⟩ := h
    obtain ⟨Y, hY, hYF⟩ := hk.keep
    exact ⟨ow, pv, kv, lo, ⟨hB.1.keep hY fun x hx hm => (hN.apart h1 h2).1 x hx (hYF x hm), hB.2⟩, ⟨hT _ _ hv.tv, hv.no⟩, hN⟩
  | n + 1, l, b, ps, F, G, h, hk, h1, h2 => by
    obtain ⟨ow, pv, kv, lo, S, Fs, hI, hv, hN, hS⟩ := h
    obtain ⟨Y, hY, hYF⟩ := hk.keep
    have ha := hN.apart h1 h2
    refine ⟨ow, pv, kv, lo, S, Fs, hI.keep hY fun x hx hm => ha.1 x hx (hYF x hm), ⟨hT _ _ hv.tv, hv.no⟩, hN, fun c hc => ?_⟩
    have := hS c hc
    unfold SlotIs at this ⊢
    cases hs : S c with
    | no => rw [hs] at this; exact this
    | pr p => rw [hs] at this; exact this
    | kd k =>
      rw [hs] at this
      exact ⟨this.1, Trie.keep hT n (l + 1) k _ _ G this.2 hk (fun x hG => ha.2 c x hc hG) h2⟩
theorem Trie.inX : ∀ (n l b : Nat) (ps : List Pr) (F : Nat → Prop), Trie H X tk lv base w n l b ps F → ∀ x, F x → X x
  | 0, l, b, ps, F, h => by
    obtain ⟨ow, pv, kv, lo, hB, hv, hN⟩ := h
    exact hN.inX fun _ _ _ h => h.elim
  | n + 1, l, b, ps, F, h => by
    obtain ⟨ow, pv, kv, lo, S, Fs, hI, hv, hN, hS⟩ := h
    refine hN.inX fun c x hc hx => ?_
    have := hS c hc
    unfold SlotIs at this
    cases hs : S c with
    | no => rw [hs] at this; exact absurd hx (this.2 x)
    | pr p => rw [hs] at this; exact absurd hx (this.2 x)
    | kd k => rw [hs] at this; exact Trie.inX n (l + 1) k _ _ this.2 x hx
/-- of a token's own blocks: none is a token, all are below the heap's end, and from base on -/
theorem Trie.blocks : ∀ (n l b : Nat) (ps : List Pr) (F : Nat → Prop), Trie H X tk lv base w n l b ps F → ∀ x, F x → (∀ cs, ¬ Blk w x 110 cs) ∧ x < w.heap.size ∧ base ≤ x
  | 0, l, b, ps, F, h => by
    obtain ⟨ow, pv, kv, lo, hB, hv, hN⟩ := h
    intro x hx
    cases ho : ownB ow tk lv with
    | false => rw [ho] at hN; exact absurd hx ((hN.no rfl).2.1 x)
    | true =>
      rw [ho] at hN
      rcases ((hN.yes rfl).2.1 x).1 hx with hx | ⟨c, _, hx⟩
      · exact ⟨hB.1.noTok x hx, hB.1.footLt x hx, hB.1.footGe x hx⟩
      · exact hx.elim
  | n + 1, l, b, ps, F, h => by
    obtain ⟨ow, pv, kv, lo, S, Fs, hI, hv, hN, hS⟩ := h
    intro x hx
    cases ho : ownB ow tk lv with
    | false => rw [ho] at hN; exact absurd hx ((hN.no rfl).2.1 x)
    | true =>
      rw [ho] at hN
      rcases ((hN.yes rfl).2.1 x).1 hx with hx | ⟨c, hc, hx⟩
      · exact ⟨hI.noTok x hx, hI.footLt x hx, hI.footGe x hx⟩
      · have := hS c hc
        unfold SlotIs at this
        cases hs : S c with
        | no => rw [hs] at this; exact absurd hx (this.2 x)
        | pr p => rw [hs] at this; exact absurd hx (this.2 x)
        | kd k => rw [hs] at this; exact Trie.blocks n (l + 1) k _ _ this.2 x hx
theorem TV.keepF {t : Option Nat} {l : Bool} (h : TV w t l) (hk : KeepF G w w') (hG : ∀ x, G x → ∀ cs, ¬ Blk w x 110 cs) : TV w' t l := by
  obtain ⟨Y, hY, hYF⟩ := hk.keep
  exact h.keep hY fun x hx => hG x (hYF x hx)
theorem TVX.keepF {t : Option Nat} {l : Bool} (h : TVX X w t l) (hk : KeepF G w w') (hG : ∀ x, G x → ∀ cs, ¬ Blk w x 110 cs) : TV w' t l := h.tv.keepF hk hG
theorem Trie.below {n l b : Nat} {ps : List Pr} (h : Trie H X tk lv base w n l b ps F) (hb : Below w.heap.size w w') : Trie H X tk lv base w' n l b ps F :=
  Trie.keep (fun t l hv => hv.below hb) n l b ps F (fun _ => False) h (KeepF.ofBelow hb) (fun _ h => h.elim) (fun _ h => h.elim)
/-- for whoever has no live token of his own it is a trie, too -/
theorem Trie.forget : ∀ (n l b : Nat) (ps : List Pr) (F : Nat → Prop), Trie H X tk lv base w n l b ps F → ∀ tk', Trie H (fun _ => False) tk' false base w n l b ps (fun _ => False)
  | 0, l, b, ps, F, h, tk' => by
    obtain ⟨ow, pv, kv, lo, hB, hv, hN⟩ := h
    exact ⟨ow, pv, kv, lo, hB, ⟨hv.tv, fun _ _ h => h⟩, fun e => by simp [ownB] at e, fun _ => ⟨fun _ _ h => h, fun _ h => h, fun _ _ _ h => h⟩⟩
  | n + 1, l, b, ps, F, h, tk' => by
    obtain ⟨ow, pv, kv, lo, S, Fs, hI, hv, hN, hS⟩ := h
    refine ⟨ow, pv, kv, lo, S, fun _ _ => False, hI, ⟨hv.tv, fun _ _ h => h⟩, ⟨fun e => by simp [ownB] at e, fun _ => ⟨fun _ _ h => h, fun _ h => h, fun _ _ _ h => h⟩⟩, fun c hc => ?_⟩
    have := hS c hc
    unfold SlotIs at this ⊢
    cases hs : S c with
    | no => rw [hs] at this; exact ⟨this.1, fun _ h => h⟩
    | pr p => rw [hs] at this; exact ⟨this.1, fun _ h => h⟩
    | kd k => rw [hs] at this; exact ⟨this.1, Trie.forget n (l + 1) k _ _ this.2 tk'⟩
end
end Go.Proofs.Ytfmbikmpobieoaa
/- Looking a key up in a trie. -/
namespace Go.Proofs.Ytfmbikmpobieoaa
open Go.RowKit Go.Lib
set_option linter.unusedVariables false
set_option maxRecDepth 100000
set_option linter.unusedSimpArgs false
set_option maxRecDepth 100000
attribute [local irreducible] cnt
/-- what a look-up returns -/
def GetPost (r : Option ByteArray) (w : World) (e : Ending) (w' : World) : Prop := e = .returned (.tuple #[.string (r.getD ⟨#[]⟩), .bool r.isSome]) ∧ Below w.heap.size w w'
theorem bytes_ne {a b : ByteArray} (h : a ≠ b) : (a.toList == b.toList) = false := by
  rw [beq_eq_false_iff_ne]
  exact fun e => h (bytes_ext (by rw [← ByteArray.toList_eq, ← ByteArray.toList_eq]; exact e))
theorem valueOf_yes (q : Pr) (w : World) : Calls Try.prog 36 #[q.v, .string q.1] w (GetPost (some q.2) w) := by
  have hB0 := (Below.refl _ w).alloc (Nat.le_refl _) (.cells #[.string q.1, .string q.2] 32)
  unfold Pr.v
  go_enter Try.func36, Try.ntmps36
  go_wp2_with fail
  go_ret2
  exact ⟨rfl, hB0⟩
theorem valueOf_no (q : Pr) (k : ByteArray) (w : World) (h : q.1 ≠ k) : Calls Try.prog 36 #[q.v, .string k] w (GetPost none w) := by
  have hB0 := (Below.refl _ w).alloc (Nat.le_refl _) (.cells #[.string q.1, .string q.2] 32)
  have hn := bytes_ne h
  unfold Pr.v
  go_enter Try.func36, Try.ntmps36
  go_wp2_with fail
  go_ret2
  exact ⟨rfl, hB0⟩
theorem getK_isK {xs : List Pr} (k : ByteArray) (h : RisesL xs) : getK xs k = if isK xs k = true then some (pat xs (posK xs k)).2 else none := by
  by_cases hk : isK xs k = true
  · rw [if_pos hk]
    have hl := isK_lt hk
    have hm := List.mem_of_getElem? (pat_get hl)
    have e : (pat xs (posK xs k)).1 = k := by unfold isK at hk; exact (of_decide_eq_true hk).2
    have := getK_of_mem h hm
    rw [e] at this; exact this
  · rw [if_neg hk, getK_none]
    have e := dropK_at xs k h
    rw [if_neg hk] at e
    intro x hx
    rw [e] at hx
    exact ((drop_mem _ _ _).1 hx).2
theorem findIn_yes (base b : Nat) (ow : Option Nat) (ps : List Pr) (pv kv : Value) (k : ByteArray) (w : World) (h : Bck base w b ow ps pv kv) (hn : ps.length ≤ 800) (hk : isK ps k = true) :
    Calls Try.prog 37 #[at0 b, .string k] w (GetPost (some (pat ps (posK ps k)).2) w) := by
  obtain ⟨hv, hr⟩ := h
  have k1 := isBucket_any _ _ _ _ _ _ _ _ _ _ w hv
  have k2 := pairs_any _ _ _ _ _ _ _ _ _ _ w hv hn
  have HK := Lib.hid hk
  clear hv hk
  unfold at0 at *
  go_enter Try.func37, Try.ntmps37
  go_wp2_with fail
  refine k1.mono ?_
  rintro e w' ⟨rfl, rfl⟩
  go_wp2_with fail
  refine k2.mono ?_
  rintro e w1 ⟨v, rfl, hO, hB1⟩
  obtain ⟨A, c, rfl, hR⟩ := own_slice hO
  have k3 := find_any A c ps k w1 hR (by omega) hr
  have HR := Lib.hid hR
  clear k1 k2 hO hR
  go_wp2_with fail
  refine k3.mono ?_
  rintro e w2 ⟨rfl, hB2⟩
  have hB := hB1.trans (hB2.mono hB1.size)
  rw [HK.out]
  have hl := isK_lt HK.out
  obtain ⟨g, off, rfl, c0, c1⟩ := (HR.out.below hB2) _ _ (pat_get hl)
  have B1 : ((posK ps k : Nat) : Int) < (ps.length : Int) := by omega
  clear k3 HK HR hB1 hB2
  generalize posK ps k = P at *
  go_wp2_with fail
  go_ret2
  exact ⟨rfl, hB⟩
theorem findIn_no (base b : Nat) (ow : Option Nat) (ps : List Pr) (pv kv : Value) (k : ByteArray) (w : World) (h : Bck base w b ow ps pv kv) (hn : ps.length ≤ 800) (hk : isK ps k = false) :
    Calls Try.prog 37 #[at0 b, .string k] w (GetPost (none) w) := by
  obtain ⟨hv, hr⟩ := h
  have k1 := isBucket_any _ _ _ _ _ _ _ _ _ _ w hv
  have k2 := pairs_any _ _ _ _ _ _ _ _ _ _ w hv hn
  have HK := Lib.hid hk
  clear hv hk
  unfold at0 at *
  go_enter Try.func37, Try.ntmps37
  go_wp2_with fail
  refine k1.mono ?_
  rintro e w' ⟨rfl, rfl⟩
  go_wp2_with fail
  refine k2.mono ?_
  rintro e w1 ⟨v, rfl, hO, hB1⟩
  obtain ⟨A, c, rfl, hR⟩ := own_slice hO
  have k3 := find_any A c ps k w1 hR (by omega) hr
  have HR := Lib.hid hR
  clear k1 k2 hO hR
  go_wp2_with fail
  refine k3.mono ?_
  rintro e w2 ⟨rfl, hB2⟩
  have hB := hB1.trans (hB2.mono hB1.size)
  rw [HK.out]
  clear k3 HR hB1 hB2 HK
  go_wp2_with fail
  go_ret2
  exact ⟨rfl, hB⟩
theorem findIn_any (base b : Nat) (ow : Option Nat) (ps : List Pr) (pv kv : Value) (k : ByteArray) (w : World) (h : Bck base w b ow ps pv kv) (hn : ps.length ≤ 800) :
    Calls Try.prog 37 #[at0 b, .string k] w (GetPost (getK ps k) w) := by
  rw [getK_isK k h.2]
  by_cases hk : isK ps k = true
  · rw [if_pos hk]; exact findIn_yes base b ow ps pv kv k w h hn hk
  · rw [if_neg hk]; exact findIn_no base b ow ps pv kv k w h hn (by simpa using hk)
theorem atZ_chk (H : ByteArray → Nat) (l : Nat) (k : ByteArray) (hl : l < 13) : atZ (H k : Int) (l : Int) = (chk H l k : Nat) := by
  unfold atZ chk
  rw [if_neg (by omega)]
  simp
theorem at_chk (H : ByteArray → Nat) (l : Nat) (k : ByteArray) (w : World) (hl : l < 13) (hH : H k < 18446744073709551616) :
    Calls Try.prog 34 #[.int .u64 (H k : Nat), .int .i64 l] w fun e w' => e = .returned (.int .i64 (chk H l k : Nat)) ∧ w = w' := by
  rw [← atZ_chk H l k hl]
  exact at_any (H k : Int) (l : Int) w (by omega) (by omega)
set_option maxHeartbeats 4000000 in
theorem find_trie (H : ByteArray → Nat) (X : Nat → Prop) (tk : Option Nat) (lv : Bool) (base b : Nat) (ps : List Pr) (F : Nat → Prop) (k : ByteArray) (w : World) (h : Trie H X tk lv base w 13 0 b ps F) (hH : H k < 18446744073709551616) (hn : ps.length ≤ 800) :
    Calls Try.prog 21 #[at0 b, .int .u64 (H k : Nat), .string k] w (GetPost (getK ps k) w) := by
  have HT := Lib.hid h
  clear h
  unfold at0
  go_enter Try.func21, Try.ntmps21
  go_wp2_with fail
  go_loopw [0, 14] (fun v0 vi wr => ∃ (l b : Nat) (qs : List Pr) (F : Nat → Prop), l ≤ 13 ∧ v0 = .pointer (some ⟨b, 0, none⟩) ∧ vi = .int .i64 l ∧ Trie H X tk lv base w (13 - l) l b qs F ∧ getK qs k = getK ps k ∧ qs.length ≤ 800 ∧ Below w.heap.size w wr) (fun v0 vi wr => 13 - (intOf vi).toNat)
  case atStart => exact ⟨0, b, ps, F, by omega, rfl, rfl, HT.out, rfl, hn, Below.refl _ _⟩
  case round =>
    clear HT
    obtain ⟨l, b', qs, F', hl, rfl, rfl, hT, hg, hq, hB⟩ := hrel
    by_cases hlt : l < 13
    · have L1 : (l : Int) < 13 := by omega
      have L2 : IntKind.i64.wrap ((l : Int) + 1) = ((l + 1 : Nat) : Int) := by rw [IntWalk.i64_in _ (by omega)]; omega
      have ka := at_chk H l k wr hlt hH
      have hc := chk_lt H l k
      obtain ⟨m, hm⟩ : ∃ m, 13 - l = m + 1 := ⟨12 - l, by omega⟩
      rw [hm] at hT
      obtain ⟨ow, pv, kv, lo, S, Fs, hI, hv, hN, hS⟩ := hT
      have hs := hS (chk H l k) hc
      have hgs := getK_sub (ps := qs) (H := H) (l := l) (k := k) rfl
      have hm' : m = 13 - (l + 1) := by omega
      have kp := Inn.pair base b' (chk H l k) ow S pv kv wr (hI.below hB) hc
      have HI := Lib.hid hI
      generalize hC : chk H l k = C at *
      clear hC hS hN hv hI
      unfold SlotIs at hs
      unfold at0 at kp
      cases hsc : S C with
      | no =>
        rw [hsc] at hs
        have eP : S.P C = none := by unfold Slots.P; rw [hsc]; rfl
        have eK : S.K C = none := by unfold Slots.K; rw [hsc]; rfl
        rw [eP] at kp
        have hgn : getK ps k = none := by rw [← hg, ← hgs, hs.1]; rfl
        rw [hgn]
        clear hs hgs hg hgn
        go_wp2_with fail
        refine ka.mono ?_
        rintro e w' ⟨rfl, rfl⟩
        go_wp2_with fail
        refine kp.mono ?_
        rintro e w1 ⟨rfl, hB1⟩
        simp only [optP, Option.isSome_none]
        go_upto_region 8 with (fail)
        have hBa := (hB.trans (hB1.mono hB.size)).alloc (Nat.le_trans hB.size hB1.size) (.cells #[.string ⟨#[]⟩, .string ⟨#[]⟩] 32)
        generalize w1.alloc (.cells #[.string ⟨#[]⟩, .string ⟨#[]⟩] 32) = W at *
        have kk := Inn.kid base b' C ow S pv kv W (HI.out.below hBa) hc
        rw [eK] at kk
        unfold at0 at kk
        go_wp2_with fail
        refine kk.mono ?_
        rintro e w2 ⟨rfl, hB2⟩
        simp only [pt, Option.isSome_none]
        go_wp2_with fail
        go_ret2
        exact ⟨rfl, hBa.trans (hB2.mono hBa.size)⟩
      | pr q =>
        rw [hsc] at hs
        have eP : S.P C = some q := by unfold Slots.P; rw [hsc]; rfl
        rw [eP] at kp
        by_cases hqk : q.1 = k
        · skip
          subst hqk
          have hgn : getK ps q.1 = some q.2 := by rw [← hg, ← hgs, hs.1]; simp [getK]
          rw [hgn]
          clear hs hgs hg hgn
          go_wp2_with fail
          refine ka.mono ?_
          rintro e w' ⟨rfl, rfl⟩
          go_wp2_with fail
          refine kp.mono ?_
          rintro e w1 ⟨rfl, hB1⟩
          simp only [optP, Pr.v, Option.isSome_some]
          go_upto_region 7 with (fail)
          have hBa := (hB.trans (hB1.mono hB.size)).alloc (Nat.le_trans hB.size hB1.size) (.cells #[.string q.1, .string q.2] 32)
          have hbx := Blk.new w1 32 #[.string q.1, .string q.2]
          generalize w1.alloc (.cells #[.string q.1, .string q.2] 32) = W at *
          generalize w1.heap.size = N at *
          have z0 : W.cell? ⟨N, 0, none⟩ = some (.string q.1) := hbx.cell 0
          have z1 : W.cell? ⟨N, 1, none⟩ = some (.string q.2) := hbx.cell 1
          have kv := valueOf_yes q W
          unfold Pr.v at kv
          clear hbx hB1
          go_wp2_with fail
          refine kv.mono ?_
          rintro e w2 ⟨rfl, hB2⟩
          simp only [Option.getD_some, Option.getD_none, Option.isSome_some, Option.isSome_none]
          go_wp2_with fail
          go_ret2
          exact ⟨rfl, hBa.trans (hB2.mono hBa.size)⟩
        · skip
          skip
          have hgn : getK ps k = none := by rw [← hg, ← hgs, hs.1]; simp [getK, hqk]
          rw [hgn]
          clear hs hgs hg hgn
          go_wp2_with fail
          refine ka.mono ?_
          rintro e w' ⟨rfl, rfl⟩
          go_wp2_with fail
          refine kp.mono ?_
          rintro e w1 ⟨rfl, hB1⟩
          simp only [optP, Pr.v, Option.isSome_some]
          go_upto_region 7 with (fail)
          have hBa := (hB.trans (hB1.mono hB.size)).alloc (Nat.le_trans hB.size hB1.size) (.cells #[.string q.1, .string q.2] 32)
          have hbx := Blk.new w1 32 #[.string q.1, .string q.2]
          generalize w1.alloc (.cells #[.string q.1, .string q.2] 32) = W at *
          generalize w1.heap.size = N at *
          have z0 : W.cell? ⟨N, 0, none⟩ = some (.string q.1) := hbx.cell 0
          have z1 : W.cell? ⟨N, 1, none⟩ = some (.string q.2) := hbx.cell 1
          have kv := valueOf_no q k W hqk
          unfold Pr.v at kv
          clear hbx hB1
          go_wp2_with fail
          refine kv.mono ?_
          rintro e w2 ⟨rfl, hB2⟩
          simp only [Option.getD_some, Option.getD_none, Option.isSome_some, Option.isSome_none]
          go_wp2_with fail
          go_ret2
          exact ⟨rfl, hBa.trans (hB2.mono hBa.size)⟩
      | kd kb =>
        rw [hsc] at hs
        have eP : S.P C = none := by unfold Slots.P; rw [hsc]; rfl
        have eK : S.K C = some kb := by unfold Slots.K; rw [hsc]; rfl
        rw [eP] at kp
        have HS := Lib.hid (⟨hs, hgs.trans hg⟩ : (2 ≤ (sub H l C qs).length ∧ Trie H X tk lv base w m (l + 1) kb (sub H l C qs) (Fs C)) ∧ getK (sub H l C qs) k = getK ps k)
        have hsl : (sub H l C qs).length ≤ 800 := Nat.le_trans sub_len hq
        clear hs hgs hg
        go_wp2_with fail
        refine ka.mono ?_
        rintro e w' ⟨rfl, rfl⟩
        go_wp2_with fail
        refine kp.mono ?_
        rintro e w1 ⟨rfl, hB1⟩
        simp only [optP, Option.isSome_none]
        go_upto_region 8 with (fail)
        have hBa := (hB.trans (hB1.mono hB.size)).alloc (Nat.le_trans hB.size hB1.size) (.cells #[.string ⟨#[]⟩, .string ⟨#[]⟩] 32)
        generalize w1.alloc (.cells #[.string ⟨#[]⟩, .string ⟨#[]⟩] 32) = W at *
        have kk := Inn.kid base b' C ow S pv kv W (HI.out.below hBa) hc
        rw [eK] at kk
        unfold at0 at kk
        go_wp2_with fail
        refine kk.mono ?_
        rintro e w2 ⟨rfl, hB2⟩
        simp only [pt, Option.isSome_some]
        unfold at0
        have hBb := hBa.trans (hB2.mono hBa.size)
        clear hB1 hB2 hBa
        go_wp2_with fail
        refine ⟨⟨l + 1, kb, sub H l C qs, Fs C, by omega, rfl, by go_num, ?_, HS.out.2, hsl, hBb⟩, by simp [intOf]; omega⟩
        rw [← hm']
        exact HS.out.1.2
    · obtain rfl : l = 13 := by omega
      obtain ⟨ow, pv, kv, lo, hb, -, -⟩ := (show Trie H X tk lv base w 0 13 b' qs F' from hT)
      have kf := findIn_any base b' ow qs pv kv k wr ⟨hb.1.below hB, hb.2⟩ hq
      rw [hg] at kf
      unfold at0 at kf
      clear hT hb
      go_wp2_with fail
      refine kf.mono ?_
      rintro e w1 ⟨rfl, hB1⟩
      go_wp2_with fail
      go_ret2
      exact ⟨rfl, hB.trans (hB1.mono hB.size)⟩
theorem find_nil (h : Int) (k : ByteArray) (w : World) (h0 : 0 ≤ h) (h1 : h < 18446744073709551616) : Calls Try.prog 21 #[.pointer none, .int .u64 h, .string k] w (GetPost none w) := by
  have ka := at_any h 0 w h0 h1
  generalize atZ h 0 = C at *
  have kp := pair_none (.pointer none) 0 C w (by decide) (Lib.hid (by simp)) (fun w' _ => data_nil w')
  have kk := fun w' => kid_none (.pointer none) 0 C w' (by decide) (Lib.hid (by simp)) (nodes_nil w')
  clear h0 h1
  go_enter Try.func21, Try.ntmps21
  go_wp2_with fail
  refine wp_loop_rounds 1 ?_
  rw [rounds_succ]
  go_wp2_with fail
  refine ka.mono ?_
  rintro e w' ⟨rfl, rfl⟩
  go_wp2_with fail
  refine kp.mono ?_
  rintro e w1 ⟨rfl, hB1⟩
  simp only [optP, Option.isSome_none]
  go_upto_region 8 with (fail)
  have hBa := hB1.alloc hB1.size (.cells #[.string ⟨#[]⟩, .string ⟨#[]⟩] 32)
  generalize w1.alloc (.cells #[.string ⟨#[]⟩, .string ⟨#[]⟩] 32) = W at *
  go_wp2_with fail
  refine (kk W).mono ?_
  rintro e w2 ⟨rfl, hB2⟩
  simp only [pt, Option.isSome_none]
  go_wp2_with fail
  go_ret2
  exact ⟨rfl, hBa.trans (hB2.mono hBa.size)⟩
end Go.Proofs.Ytfmbikmpobieoaa
/- Get; the steps that a change makes. -/
namespace Go.Proofs.Ytfmbikmpobieoaa
open Go.RowKit Go.Lib
set_option linter.unusedVariables false
set_option maxRecDepth 100000
set_option linter.unusedSimpArgs false
set_option maxRecDepth 100000
attribute [local irreducible] cnt
/-- a key's hash -/
def hz (k0 k1 m : Int) (s : ByteArray) : Nat := (Sip.an (Sip.sipZ k0 k1 s.data.toList) m).toNat
/-- the numbers of a hasher -/
def U64 (x : Int) : Prop := 0 ≤ x ∧ x < 18446744073709551616
theorem hz_int (k0 k1 m : Int) (s : ByteArray) : ((hz k0 k1 m s : Nat) : Int) = Sip.an (Sip.sipZ k0 k1 s.data.toList) m ∧ hz k0 k1 m s < 18446744073709551616 := by
  have h := Sip.an_lt (Sip.sipZ k0 k1 s.data.toList) m
  unfold hz
  omega
theorem hash_hz (k0 k1 m : Int) (s : ByteArray) (w : World) (h0 : U64 k0) (h1 : U64 k1) (hs : s.size ≤ 1000) :
    Calls Try.prog 20 #[.agg #[.int .u64 k0, .int .u64 k1, .int .u64 m], .string s] w fun e w' => e = .returned (.int .u64 (hz k0 k1 m s : Nat)) ∧ Below w.heap.size w w' := by
  rw [(hz_int k0 k1 m s).1]
  exact Sip.hash_any k0 k1 m s w h0 h1 hs
theorem get_trie (k0 k1 m : Int) (X : Nat → Prop) (tk : Option Nat) (lv : Bool) (base b : Nat) (ps : List Pr) (F : Nat → Prop) (k : ByteArray) (w : World) (h : Trie (hz k0 k1 m) X tk lv base w 13 0 b ps F) (h0 : U64 k0) (h1 : U64 k1) (hs : k.size ≤ 1000) (hn : ps.length ≤ 800) :
    Calls Try.prog 17 #[.agg #[.int .u64 k0, .int .u64 k1, .int .u64 m], at0 b, .string k] w (GetPost (getK ps k) w) := by
  have hB0 := (Below.refl _ w).alloc (Nat.le_refl _) (.cells #[.int .u64 k0, .int .u64 k1, .int .u64 m] 28)
  have HT := Lib.hid h
  clear h
  unfold at0
  go_enter Try.func17, Try.ntmps17
  go_wp2_with fail
  refine (hash_hz k0 k1 m k _ h0 h1 hs).mono ?_
  rintro e w1 ⟨rfl, hB1⟩
  have hB01 := hB0.trans (hB1.mono hB0.size)
  have kf := find_trie (hz k0 k1 m) X tk lv base b ps F k w1 (HT.out.below hB01) (hz_int k0 k1 m k).2 hn
  unfold at0 at kf
  clear HT hB1 hB0
  go_wp2_with fail
  refine kf.mono ?_
  rintro e w2 ⟨rfl, hB2⟩
  go_wp2_with fail
  go_ret2
  exact ⟨rfl, hB01.trans (hB2.mono hB01.size)⟩
theorem get_nil (k0 k1 m : Int) (k : ByteArray) (w : World) (h0 : U64 k0) (h1 : U64 k1) (hs : k.size ≤ 1000) :
    Calls Try.prog 17 #[.agg #[.int .u64 k0, .int .u64 k1, .int .u64 m], .pointer none, .string k] w (GetPost none w) := by
  have hB0 := (Below.refl _ w).alloc (Nat.le_refl _) (.cells #[.int .u64 k0, .int .u64 k1, .int .u64 m] 28)
  go_enter Try.func17, Try.ntmps17
  go_wp2_with fail
  refine (hash_hz k0 k1 m k _ h0 h1 hs).mono ?_
  rintro e w1 ⟨rfl, hB1⟩
  have hB01 := hB0.trans (hB1.mono hB0.size)
  have kf := find_nil (hz k0 k1 m k : Nat) k w1 (by omega) (by have := (hz_int k0 k1 m k).2; omega)
  clear hB1 hB0
  go_wp2_with fail
  refine kf.mono ?_
  rintro e w2 ⟨rfl, hB2⟩
  go_wp2_with fail
  go_ret2
  exact ⟨rfl, hB01.trans (hB2.mono hB01.size)⟩
/-- the step that a function value makes: which node comes of it -/
def RetB (R : Nat → World → Prop) (e : Ending) (w : World) : Prop := ∃ b, e = .returned (.pointer (some ⟨b, 0, none⟩)) ∧ R b w
theorem stepPair (nv tv : Value) (i : Int) (k u : ByteArray) (X1 X2 : Nat) (R : Nat → World → Prop) (w : World) (h1 : Blk w X1 3 #[.int .i64 i]) (h2 : Blk w X2 32 #[.string k, .string u]) (h : Calls Try.prog 62 #[nv, tv, .int .i64 i, .agg #[.string k, .string u]] w (RetB R)) :
    Calls Try.prog 63 #[nv, tv, .pointer (some ⟨X1, 0, none⟩), .pointer (some ⟨X2, 0, none⟩)] w (RetB R) := by
  have c00 : w.cell? ⟨X1, 0, none⟩ = some (.int .i64 i) := h1.cell 0
  have c10 : w.cell? ⟨X2, 0, none⟩ = some (.string k) := h2.cell 0
  have c11 : w.cell? ⟨X2, 1, none⟩ = some (.string u) := h2.cell 1
  clear h1 h2
  go_enter Try.func63, Try.ntmps63
  go_wp2_with fail
  refine h.mono ?_
  rintro e w' ⟨b, rfl, hR⟩
  go_wp2_with fail
  go_ret
  exact ⟨b, rfl, hR⟩
def isPair (w : World) (f : Value) (i : Int) (k u : ByteArray) : Prop := ∃ X1 X2, f = .func (.func 63) #[] #[.pointer (some ⟨X1, 0, none⟩), .pointer (some ⟨X2, 0, none⟩)] ∧ Blk w X1 3 #[.int .i64 i] ∧ Blk w X2 32 #[.string k, .string u]
theorem isPair.below {w w' : World} {f : Value} {i : Int} {k u : ByteArray} (h : isPair w f i k u) (hB : Below w.heap.size w w') : isPair w' f i k u := by
  obtain ⟨X1, X2, e, h1, h2⟩ := h
  exact ⟨X1, X2, e, h1.below hB, h2.below hB⟩
theorem mkPair (i : Int) (k u : ByteArray) (w : World) :
    Calls Try.prog 43 #[.int .i64 i, .agg #[.string k, .string u]] w fun e w' => ∃ f, e = .returned f ∧ isPair w' f i k u ∧ Below w.heap.size w w' := by
  have hmf : ∀ (fn : Fn) (first cap : Array Value) (w : World), (Instr.makeFunc fn first cap).run Try.prog w = .ok (.func fn first cap) w := fun _ _ _ _ => rfl
  have hB0 := (Below.refl _ w).alloc (Nat.le_refl _) (.cells #[.int .i64 i] 3)
  have hB1 := hB0.alloc hB0.size (.cells #[.string k, .string u] 32)
  have b1 := (Blk.new w 3 #[.int .i64 i]).alloc (.cells #[.string k, .string u] 32)
  have b2 := Blk.new (w.alloc (.cells #[.int .i64 i] 3)) 32 #[.string k, .string u]
  go_enter Try.func43, Try.ntmps43
  go_wp2_with fail
  go_ret
  exact ⟨_, rfl, ⟨_, _, rfl, b1, by simpa using b2⟩, hB1⟩
theorem madePair (k0 k1 m hh : Int) (tk : Option Nat) (b : Nat) (ours : Bool) (f : Value) (i : Int) (k u : ByteArray) (R : Nat → World → Prop) (w : World) (hf : isPair w f i k u)
    (ho : ours = true ∨ ∀ w', Below w.heap.size w w' → Calls Try.prog 38 #[.pointer (some ⟨b, 0, none⟩), pt tk] w' fun e w'' => e = .returned (.bool false) ∧ w' = w'')
    (h : ∀ w', Below w.heap.size w w' → Calls Try.prog 62 #[.pointer (some ⟨b, 0, none⟩), pt tk, .int .i64 i, .agg #[.string k, .string u]] w' (RetB R)) :
    Calls Try.prog 39 #[.agg #[.int .u64 k0, .int .u64 k1, .int .u64 m, .int .u64 hh, pt tk], .pointer (some ⟨b, 0, none⟩), .bool ours, f] w (RetB R) := by
  obtain ⟨X1, X2, rfl, h1, h2⟩ := hf
  obtain ⟨tv, htv⟩ : ∃ tv, tv = pt tk := ⟨_, rfl⟩
  obtain ⟨T, hT⟩ : ∃ T, tv = .pointer T := by cases tk <;> exact ⟨_, htv⟩
  rw [← htv] at ho h ⊢
  subst hT
  clear htv
  have hB0 := (Below.refl _ w).alloc (Nat.le_refl _) (.cells #[.int .u64 k0, .int .u64 k1, .int .u64 m, .int .u64 hh, .pointer T] 53)
  have hbx := Blk.new w 53 #[.int .u64 k0, .int .u64 k1, .int .u64 m, .int .u64 hh, .pointer T]
  have ks := stepPair (.pointer (some ⟨b, 0, none⟩)) (.pointer T) i k u X1 X2 R _ (h1.below hB0) (h2.below hB0) (h _ hB0)
  cases ours with
  | true =>
    clear ho h h1 h2
    go_enter Try.func39, Try.ntmps39
    go_upto_region 1 with (fail)
    generalize w.alloc (.cells #[.int .u64 k0, .int .u64 k1, .int .u64 m, .int .u64 hh, .pointer T] 53) = W at *
    generalize w.heap.size = N at *
    have c4 : W.cell? ⟨N, 4, none⟩ = some (.pointer T) := hbx.cell 4
    go_wp2_with fail
    refine ks.mono ?_
    rintro e w1 ⟨b1, rfl, hR⟩
    go_wp2_with fail
    go_ret
    exact ⟨b1, rfl, hR⟩
  | false =>
    have ko := (ho.resolve_left (by simp)) _ hB0
    clear ho h h1 h2
    go_enter Try.func39, Try.ntmps39
    go_upto_region 1 with (fail)
    generalize w.alloc (.cells #[.int .u64 k0, .int .u64 k1, .int .u64 m, .int .u64 hh, .pointer T] 53) = W at *
    generalize w.heap.size = N at *
    have c4 : W.cell? ⟨N, 4, none⟩ = some (.pointer T) := hbx.cell 4
    go_wp2_with fail
    refine ko.mono ?_
    rintro e w' ⟨rfl, rfl⟩
    go_wp2_with fail
    refine ks.mono ?_
    rintro e w1 ⟨b1, rfl, hR⟩
    go_wp2_with fail
    go_ret
    exact ⟨b1, rfl, hR⟩
theorem stepKid (nv tv : Value) (i : Int) (kb : Nat) (X1 X2 : Nat) (R : Nat → World → Prop) (w : World) (h1 : Blk w X1 3 #[.int .i64 i]) (h2 : Blk w X2 29 #[.pointer (some ⟨kb, 0, none⟩)]) (h : Calls Try.prog 60 #[nv, tv, .int .i64 i, .pointer (some ⟨kb, 0, none⟩)] w (RetB R)) :
    Calls Try.prog 59 #[nv, tv, .pointer (some ⟨X1, 0, none⟩), .pointer (some ⟨X2, 0, none⟩)] w (RetB R) := by
  have c00 : w.cell? ⟨X1, 0, none⟩ = some (.int .i64 i) := h1.cell 0
  have c10 : w.cell? ⟨X2, 0, none⟩ = some (.pointer (some ⟨kb, 0, none⟩)) := h2.cell 0
  clear h1 h2
  go_enter Try.func59, Try.ntmps59
  go_wp2_with fail
  refine h.mono ?_
  rintro e w' ⟨b, rfl, hR⟩
  go_wp2_with fail
  go_ret
  exact ⟨b, rfl, hR⟩
def isKid (w : World) (f : Value) (i : Int) (kb : Nat) : Prop := ∃ X1 X2, f = .func (.func 59) #[] #[.pointer (some ⟨X1, 0, none⟩), .pointer (some ⟨X2, 0, none⟩)] ∧ Blk w X1 3 #[.int .i64 i] ∧ Blk w X2 29 #[.pointer (some ⟨kb, 0, none⟩)]
theorem isKid.below {w w' : World} {f : Value} {i : Int} {kb : Nat} (h : isKid w f i kb) (hB : Below w.heap.size w w') : isKid w' f i kb := by
  obtain ⟨X1, X2, e, h1, h2⟩ := h
  exact ⟨X1, X2, e, h1.below hB, h2.below hB⟩
theorem mkKid (i : Int) (kb : Nat) (w : World) :
    Calls Try.prog 41 #[.int .i64 i, .pointer (some ⟨kb, 0, none⟩)] w fun e w' => ∃ f, e = .returned f ∧ isKid w' f i kb ∧ Below w.heap.size w w' := by
  have hmf : ∀ (fn : Fn) (first cap : Array Value) (w : World), (Instr.makeFunc fn first cap).run Try.prog w = .ok (.func fn first cap) w := fun _ _ _ _ => rfl
  have hB0 := (Below.refl _ w).alloc (Nat.le_refl _) (.cells #[.int .i64 i] 3)
  have hB1 := hB0.alloc hB0.size (.cells #[.pointer (some ⟨kb, 0, none⟩)] 29)
  have b1 := (Blk.new w 3 #[.int .i64 i]).alloc (.cells #[.pointer (some ⟨kb, 0, none⟩)] 29)
  have b2 := Blk.new (w.alloc (.cells #[.int .i64 i] 3)) 29 #[.pointer (some ⟨kb, 0, none⟩)]
  go_enter Try.func41, Try.ntmps41
  go_wp2_with fail
  go_ret
  exact ⟨_, rfl, ⟨_, _, rfl, b1, by simpa using b2⟩, hB1⟩
theorem madeKid (k0 k1 m hh : Int) (tk : Option Nat) (b : Nat) (ours : Bool) (f : Value) (i : Int) (kb : Nat) (R : Nat → World → Prop) (w : World) (hf : isKid w f i kb)
    (ho : ours = true ∨ ∀ w', Below w.heap.size w w' → Calls Try.prog 38 #[.pointer (some ⟨b, 0, none⟩), pt tk] w' fun e w'' => e = .returned (.bool false) ∧ w' = w'')
    (h : ∀ w', Below w.heap.size w w' → Calls Try.prog 60 #[.pointer (some ⟨b, 0, none⟩), pt tk, .int .i64 i, .pointer (some ⟨kb, 0, none⟩)] w' (RetB R)) :
    Calls Try.prog 39 #[.agg #[.int .u64 k0, .int .u64 k1, .int .u64 m, .int .u64 hh, pt tk], .pointer (some ⟨b, 0, none⟩), .bool ours, f] w (RetB R) := by
  obtain ⟨X1, X2, rfl, h1, h2⟩ := hf
  obtain ⟨tv, htv⟩ : ∃ tv, tv = pt tk := ⟨_, rfl⟩
  obtain ⟨T, hT⟩ : ∃ T, tv = .pointer T := by cases tk <;> exact ⟨_, htv⟩
  rw [← htv] at ho h ⊢
  subst hT
  clear htv
  have hB0 := (Below.refl _ w).alloc (Nat.le_refl _) (.cells #[.int .u64 k0, .int .u64 k1, .int .u64 m, .int .u64 hh, .pointer T] 53)
  have hbx := Blk.new w 53 #[.int .u64 k0, .int .u64 k1, .int .u64 m, .int .u64 hh, .pointer T]
  have ks := stepKid (.pointer (some ⟨b, 0, none⟩)) (.pointer T) i kb X1 X2 R _ (h1.below hB0) (h2.below hB0) (h _ hB0)
  cases ours with
  | true =>
    clear ho h h1 h2
    go_enter Try.func39, Try.ntmps39
    go_upto_region 1 with (fail)
    generalize w.alloc (.cells #[.int .u64 k0, .int .u64 k1, .int .u64 m, .int .u64 hh, .pointer T] 53) = W at *
    generalize w.heap.size = N at *
    have c4 : W.cell? ⟨N, 4, none⟩ = some (.pointer T) := hbx.cell 4
    go_wp2_with fail
    refine ks.mono ?_
    rintro e w1 ⟨b1, rfl, hR⟩
    go_wp2_with fail
    go_ret
    exact ⟨b1, rfl, hR⟩
  | false =>
    have ko := (ho.resolve_left (by simp)) _ hB0
    clear ho h h1 h2
    go_enter Try.func39, Try.ntmps39
    go_upto_region 1 with (fail)
    generalize w.alloc (.cells #[.int .u64 k0, .int .u64 k1, .int .u64 m, .int .u64 hh, .pointer T] 53) = W at *
    generalize w.heap.size = N at *
    have c4 : W.cell? ⟨N, 4, none⟩ = some (.pointer T) := hbx.cell 4
    go_wp2_with fail
    refine ko.mono ?_
    rintro e w' ⟨rfl, rfl⟩
    go_wp2_with fail
    refine ks.mono ?_
    rintro e w1 ⟨b1, rfl, hR⟩
    go_wp2_with fail
    go_ret
    exact ⟨b1, rfl, hR⟩
theorem stepPut (nv tv : Value) (k u : ByteArray) (X1 : Nat) (R : Nat → World → Prop) (w : World) (h1 : Blk w X1 32 #[.string k, .string u]) (h : Calls Try.prog 58 #[nv, tv, .agg #[.string k, .string u]] w (RetB R)) :
    Calls Try.prog 57 #[nv, tv, .pointer (some ⟨X1, 0, none⟩)] w (RetB R) := by
  have c00 : w.cell? ⟨X1, 0, none⟩ = some (.string k) := h1.cell 0
  have c01 : w.cell? ⟨X1, 1, none⟩ = some (.string u) := h1.cell 1
  clear h1
  go_enter Try.func57, Try.ntmps57
  go_wp2_with fail
  refine h.mono ?_
  rintro e w' ⟨b, rfl, hR⟩
  go_wp2_with fail
  go_ret
  exact ⟨b, rfl, hR⟩
def isPut (w : World) (f : Value) (k u : ByteArray) : Prop := ∃ X1, f = .func (.func 57) #[] #[.pointer (some ⟨X1, 0, none⟩)] ∧ Blk w X1 32 #[.string k, .string u]
theorem isPut.below {w w' : World} {f : Value} {k u : ByteArray} (h : isPut w f k u) (hB : Below w.heap.size w w') : isPut w' f k u := by
  obtain ⟨X1, e, h1⟩ := h
  exact ⟨X1, e, h1.below hB⟩
theorem mkPut (k u : ByteArray) (w : World) :
    Calls Try.prog 40 #[.agg #[.string k, .string u]] w fun e w' => ∃ f, e = .returned f ∧ isPut w' f k u ∧ Below w.heap.size w w' := by
  have hmf : ∀ (fn : Fn) (first cap : Array Value) (w : World), (Instr.makeFunc fn first cap).run Try.prog w = .ok (.func fn first cap) w := fun _ _ _ _ => rfl
  have hB0 := (Below.refl _ w).alloc (Nat.le_refl _) (.cells #[.string k, .string u] 32)
  have b1 := Blk.new w 32 #[.string k, .string u]
  go_enter Try.func40, Try.ntmps40
  go_wp2_with fail
  go_ret
  exact ⟨_, rfl, ⟨_, rfl, b1⟩, hB0⟩
theorem madePut (k0 k1 m hh : Int) (tk : Option Nat) (b : Nat) (ours : Bool) (f : Value) (k u : ByteArray) (R : Nat → World → Prop) (w : World) (hf : isPut w f k u)
    (ho : ours = true ∨ ∀ w', Below w.heap.size w w' → Calls Try.prog 38 #[.pointer (some ⟨b, 0, none⟩), pt tk] w' fun e w'' => e = .returned (.bool false) ∧ w' = w'')
    (h : ∀ w', Below w.heap.size w w' → Calls Try.prog 58 #[.pointer (some ⟨b, 0, none⟩), pt tk, .agg #[.string k, .string u]] w' (RetB R)) :
    Calls Try.prog 39 #[.agg #[.int .u64 k0, .int .u64 k1, .int .u64 m, .int .u64 hh, pt tk], .pointer (some ⟨b, 0, none⟩), .bool ours, f] w (RetB R) := by
  obtain ⟨X1, rfl, h1⟩ := hf
  obtain ⟨tv, htv⟩ : ∃ tv, tv = pt tk := ⟨_, rfl⟩
  obtain ⟨T, hT⟩ : ∃ T, tv = .pointer T := by cases tk <;> exact ⟨_, htv⟩
  rw [← htv] at ho h ⊢
  subst hT
  clear htv
  have hB0 := (Below.refl _ w).alloc (Nat.le_refl _) (.cells #[.int .u64 k0, .int .u64 k1, .int .u64 m, .int .u64 hh, .pointer T] 53)
  have hbx := Blk.new w 53 #[.int .u64 k0, .int .u64 k1, .int .u64 m, .int .u64 hh, .pointer T]
  have ks := stepPut (.pointer (some ⟨b, 0, none⟩)) (.pointer T) k u X1 R _ (h1.below hB0) (h _ hB0)
  cases ours with
  | true =>
    clear ho h h1
    go_enter Try.func39, Try.ntmps39
    go_upto_region 1 with (fail)
    generalize w.alloc (.cells #[.int .u64 k0, .int .u64 k1, .int .u64 m, .int .u64 hh, .pointer T] 53) = W at *
    generalize w.heap.size = N at *
    have c4 : W.cell? ⟨N, 4, none⟩ = some (.pointer T) := hbx.cell 4
    go_wp2_with fail
    refine ks.mono ?_
    rintro e w1 ⟨b1, rfl, hR⟩
    go_wp2_with fail
    go_ret
    exact ⟨b1, rfl, hR⟩
  | false =>
    have ko := (ho.resolve_left (by simp)) _ hB0
    clear ho h h1
    go_enter Try.func39, Try.ntmps39
    go_upto_region 1 with (fail)
    generalize w.alloc (.cells #[.int .u64 k0, .int .u64 k1, .int .u64 m, .int .u64 hh, .pointer T] 53) = W at *
    generalize w.heap.size = N at *
    have c4 : W.cell? ⟨N, 4, none⟩ = some (.pointer T) := hbx.cell 4
    go_wp2_with fail
    refine ko.mono ?_
    rintro e w' ⟨rfl, rfl⟩
    go_wp2_with fail
    refine ks.mono ?_
    rintro e w1 ⟨b1, rfl, hR⟩
    go_wp2_with fail
    go_ret
    exact ⟨b1, rfl, hR⟩
end Go.Proofs.Ytfmbikmpobieoaa
/- A trie behind one changed node. -/
namespace Go.Proofs.Ytfmbikmpobieoaa
open Go.RowKit Go.Lib
set_option linter.unusedVariables false
set_option maxRecDepth 100000
set_option linter.unusedSimpArgs false
set_option maxRecDepth 100000
attribute [local irreducible] cnt
/-- who changes: his token, which blocks may be his own -/
structure Cx (X : Nat → Prop) (tk : Option Nat) (lv : Bool) (base : Nat) (w : World) : Prop where
  tv : TV w tk lv
  yes : lv = true → ∀ x, w.heap.size ≤ x → X x
  no : lv = false → ∀ x, w.heap.size ≤ x → ¬ X x
  base : base ≤ w.heap.size
  tok : lv = true → ∀ t, tk = some t → ¬ X t
/-- .. of a node that is changed -/
structure NodeW (X : Nat → Prop) (own : Bool) (ft : List Nat) (Fs : Nat → Nat → Prop) (F : Nat → Prop) : Prop where
  yes : own = true → (∀ x ∈ ft, X x) ∧ (∀ x, F x ↔ x ∈ ft ∨ ∃ c, c < 32 ∧ Fs c x) ∧ (∀ c x, c < 32 → Fs c x → x ∉ ft) ∧ (∀ c c' x, c < 32 → c' < 32 → Fs c x → Fs c' x → c = c')
  no : own = false → (∀ x, ¬ F x) ∧ ∀ c x, c < 32 → ¬ Fs c x
theorem NodeF.w {X : Nat → Prop} {own : Bool} {ft : List Nat} {Fs : Nat → Nat → Prop} {F : Nat → Prop} (h : NodeF X own ft Fs F) : NodeW X own ft Fs F := ⟨h.yes, fun e => ⟨(h.no e).2.1, (h.no e).2.2⟩⟩
section
variable {H : ByteArray → Nat} {X F G : Nat → Prop} {tk : Option Nat} {lv : Bool} {base : Nat} {w w' w1 w2 : World}
theorem Cx.keep (h : Cx X tk lv base w) (hs : w.heap.size ≤ w'.heap.size) (hv : TV w' tk lv) : Cx X tk lv base w' :=
  ⟨hv, fun e x hx => h.yes e x (Nat.le_trans hs hx), fun e x hx => h.no e x (Nat.le_trans hs hx), Nat.le_trans h.base hs, h.tok⟩
theorem Cx.below (h : Cx X tk lv base w) (hb : Below w.heap.size w w') : Cx X tk lv base w' := h.keep hb.size (h.tv.below hb)
theorem own_new (tk : Option Nat) (lv : Bool) : ownB (newOw tk lv) tk lv = lv := by
  unfold ownB newOw
  cases lv <;> simp
theorem tv_new (h : TV w tk lv) (hx : lv = true → ∀ t, tk = some t → ¬ X t) : ∃ lo, TVX X w (newOw tk lv) lo := by
  unfold newOw
  cases lv with
  | true => exact ⟨true, h, fun t e => hx rfl t (by simpa using e)⟩
  | false => exact ⟨false, TV.nil _, fun t e => by simp at e⟩
theorem Trie.noLive : ∀ (n l b : Nat) (ps : List Pr) (F : Nat → Prop), Trie H X tk false base w n l b ps F → ∀ x, ¬ F x
  | 0, l, b, ps, F, h => by
    obtain ⟨ow, pv, kv, lo, hB, hv, hN⟩ := h
    exact (hN.no (by simp [ownB])).2.1
  | n + 1, l, b, ps, F, h => by
    obtain ⟨ow, pv, kv, lo, S, Fs, hI, hv, hN, hS⟩ := h
    exact (hN.no (by simp [ownB])).2.1
/-- facts of a chunk's own blocks -/
theorem SlotIs.facts {n l : Nat} {s : Sl} {qs : List Pr} (h : SlotIs (fun k qs G => Trie H X tk lv base w n l k qs G) s qs G) : (∀ x, G x → X x) ∧ (∀ x, G x → (∀ cs, ¬ Blk w x 110 cs) ∧ x < w.heap.size ∧ base ≤ x) ∧ (lv = false → ∀ x, ¬ G x) := by
  unfold SlotIs at h
  cases s with
  | no => exact ⟨fun x hx => absurd hx (h.2 x), fun x hx => absurd hx (h.2 x), fun _ => h.2⟩
  | pr p => exact ⟨fun x hx => absurd hx (h.2 x), fun x hx => absurd hx (h.2 x), fun _ => h.2⟩
  | kd k =>
    refine ⟨Trie.inX _ _ _ _ _ h.2, Trie.blocks _ _ _ _ _ h.2, fun e => ?_⟩
    subst e
    exact Trie.noLive _ _ _ _ _ h.2
theorem SlotIs.keep {n l : Nat} {s : Sl} {qs : List Pr} {Y : Nat → Prop} (h : SlotIs (fun k qs G => Trie H X tk lv base w n l k qs G) s qs G) (hT : ∀ t l, TV w t l → TV w' t l) (hk : KeepF Y w w') (h1 : ∀ x, Y x → ¬ G x) (h2 : ∀ x, Y x → X x) :
    SlotIs (fun k qs G => Trie H X tk lv base w' n l k qs G) s qs G := by
  unfold SlotIs at h ⊢
  cases s with
  | no => exact h
  | pr p => exact h
  | kd k => exact ⟨h.1, Trie.keep hT _ _ _ _ _ Y h.2 hk h1 h2⟩
/-- what a change of a trie leaves -/
def ChPost (H : ByteArray → Nat) (X : Nat → Prop) (tk : Option Nat) (lv : Bool) (base n l : Nat) (ps : List Pr) (F : Nat → Prop) (w : World) (b : Nat) (w' : World) : Prop :=
  ∃ F', Trie H X tk lv base w' n l b ps F' ∧ KeepF F w w' ∧ TV w' tk lv ∧ ∀ y, F' y → F y ∨ w.heap.size ≤ y
theorem Trie.change {n l b i : Nat} {ps ps' qs : List Pr} {ow : Option Nat} {pv kv : Value} {S : Slots} {Fs : Nat → Nat → Prop} {x : Sl} {e : Ending}
    (hcx : Cx X tk lv base w) (hI : Inn base w b ow S pv kv) (hN : NodeW X (ownB ow tk lv) (foot b pv kv) Fs F)
    (hS : ∀ c, c < 32 → SlotIs (fun k qs G => Trie H X tk lv base w n (l + 1) k qs G) (S c) (sub H l c ps) (Fs c))
    (hi : i < 32) (hk : KeepF (Fs i) w w1) (hx : SlotIs (fun k qs G => Trie H X tk lv base w1 n (l + 1) k qs G) x qs G) (hG : ∀ y, G y → Fs i y ∨ w.heap.size ≤ y)
    (hp : InnPost base (ownB ow tk lv) b pv kv (newOw tk lv) (S.put i x) w1 e w2)
    (h1 : ∀ c, c ≠ i → sub H l c ps' = sub H l c ps) (h2 : sub H l i ps' = qs) :
    RetB (ChPost H X tk lv base (n + 1) l ps' F w) e w2 := by
  obtain ⟨b1, pv1, kv1, rfl, hI1, hcg⟩ := hp
  have hfi := (hS i hi).facts
  have hfG := hx.facts
  have hs1 := hk.size
  have hT1 : ∀ t l, TV w t l → TV w1 t l := fun t l hv => hv.keepF hk fun x hx => (hfi.2.1 x hx).1
  have hfoot := hI.footLt
  -- own blocks of the node
  have hkB : Keep (if ownB ow tk lv = true then foot b pv kv else []) w1 w2 := hcg.keep
  obtain ⟨Y, hYk, hY⟩ : ∃ Y : Nat → Prop, KeepF Y w1 w2 ∧ ∀ x, Y x ↔ (ownB ow tk lv = true ∧ x ∈ foot b pv kv) := by
    refine ⟨fun x => ownB ow tk lv = true ∧ x ∈ foot b pv kv, (KeepF.ofKeep hkB).mono fun x hx => .inl ?_, fun x => Iff.rfl⟩
    cases ho : ownB ow tk lv with
    | true => rw [ho] at hx; exact ⟨rfl, by simpa using hx⟩
    | false => rw [ho] at hx; simp at hx
  have hI1w : Inn base w1 b ow S pv kv := by
    obtain ⟨Z, hZ, hZF⟩ := hk.keep
    refine hI.keep hZ fun x hx hm => ?_
    cases ho : ownB ow tk lv with
    | true => rw [ho] at hN; exact (hN.yes rfl).2.2.1 i x hi (hZF x hm) hx
    | false => rw [ho] at hN; exact (hN.no rfl).2 i x hi (hZF x hm)
  have hT2 : ∀ t l, TV w1 t l → TV w2 t l := fun t l hv => hv.keepF hYk fun x hx => hI1w.noTok x ((hY x).1 hx).2
  have hYX : ∀ x, Y x → X x := fun x hx => by
    obtain ⟨ho, hx⟩ := (hY x).1 hx
    exact (hN.yes ho).1 x hx
  -- the chunks' own blocks, changed
  obtain ⟨Fs', hFs'⟩ : ∃ Fs' : Nat → Nat → Prop, Fs' = fun c y => if c = i then G y else Fs c y := ⟨_, rfl⟩
  have ei : ∀ y, Fs' i y ↔ G y := fun y => by rw [hFs']; simp
  have ec : ∀ c y, c ≠ i → (Fs' c y ↔ Fs c y) := fun c y hc => by rw [hFs']; simp [hc]
  have hold : ∀ c y, c < 32 → Fs c y → ownB ow tk lv = true ∧ y < w.heap.size ∧ y ∉ foot b pv kv := fun c y hc hy => by
    cases ho : ownB ow tk lv with
    | false => rw [ho] at hN; exact absurd hy ((hN.no rfl).2 c y hc)
    | true => rw [ho] at hN; exact ⟨rfl, ((hS c hc).facts.2.1 y hy).2.1, (hN.yes rfl).2.2.1 c y hc hy⟩
  have hGf : ∀ y, G y → y ∉ foot b pv kv ∨ ownB ow tk lv = false := fun y hy => by
    rcases hG y hy with hy | hy
    · exact .inl (hold i y hi hy).2.2
    · exact .inl fun hm => by have := hfoot y hm; omega
  have hown : ∀ y, Y y → ∀ c, c < 32 → ¬ Fs' c y := fun y hy c hc hf => by
    obtain ⟨ho, hy⟩ := (hY y).1 hy
    by_cases e : c = i
    · subst e
      rcases hGf y ((ei y).1 hf) with h | h
      · exact h hy
      · rw [ho] at h; cases h
    · exact (hold c y hc ((ec c y e).1 hf)).2.2 hy
  have hlo : lv = false → ownB ow tk lv = false := fun e => by rw [e]; simp [ownB]
  refine ⟨b1, rfl, fun y => lv = true ∧ (y ∈ foot b1 pv1 kv1 ∨ ∃ c, c < 32 ∧ Fs' c y), ?_, ?_, hT2 _ _ (hT1 _ _ hcx.tv), ?_⟩
  · obtain ⟨lo, hlo2⟩ := tv_new (hT2 _ _ (hT1 _ _ hcx.tv)) hcx.tok
    refine ⟨newOw tk lv, pv1, kv1, lo, S.put i x, Fs', hI1, hlo2, ?_, fun c hc => ?_⟩
    · rw [own_new]
      constructor
      · intro e
        refine ⟨fun y hy => ?_, fun y => by simp [e], fun c y hc hf hm => ?_, fun c c' y hc hc' hf hf' => ?_⟩
        · rcases hcg.foot y hy with ⟨ho, hm⟩ | hm
          · exact (hN.yes ho).1 y hm
          · exact hcx.yes e y (Nat.le_trans hs1 hm)
        · rcases hcg.foot y hm with ⟨ho, hm⟩ | hm
          · exact hown y ((hY y).2 ⟨ho, hm⟩) c hc hf
          · by_cases ee : c = i
            · subst ee
              have := (hfG.2.1 y ((ei y).1 hf)).2.1
              omega
            · have := (hold c y hc ((ec c y ee).1 hf)).2.1
              omega
        · by_cases e1 : c = i
          · by_cases e2 : c' = i
            · rw [e1, e2]
            · exfalso
              subst e1
              have hf2 := (ec c' y e2).1 hf'
              have h3 := hold c' y hc' hf2
              rcases hG y ((ei y).1 hf) with h | h
              · exact e2 ((hN.yes h3.1).2.2.2 c' c y hc' hc hf2 h)
              · omega
          · by_cases e2 : c' = i
            · exfalso
              subst e2
              have hf2 := (ec c y e1).1 hf
              have h3 := hold c y hc hf2
              rcases hG y ((ei y).1 hf') with h | h
              · exact e1 ((hN.yes h3.1).2.2.2 c c' y hc hc' hf2 h)
              · omega
            · have hf1 := (ec c y e1).1 hf
              have hf2 := (ec c' y e2).1 hf'
              exact (hN.yes (hold c y hc hf1).1).2.2.2 c c' y hc hc' hf1 hf2
      · intro e
        refine ⟨fun y hy => ?_, fun y hy => by simp [e] at hy, fun c y hc hf => ?_⟩
        · rcases hcg.foot y hy with ⟨ho, _⟩ | hm
          · rw [hlo e] at ho; cases ho
          · exact hcx.no e y (Nat.le_trans hs1 hm)
        by_cases ee : c = i
        · subst ee
          exact hfG.2.2 e y ((ei y).1 hf)
        · have := (hold c y hc ((ec c y ee).1 hf)).1
          rw [hlo e] at this; cases this
    · by_cases ee : c = i
      · subst ee
        have hz : SlotIs (fun k qs G => Trie H X tk lv base w2 n (l + 1) k qs G) x qs G := hx.keep hT2 hYk (fun y hy hg => hown y hy c hc ((ei y).2 hg)) hYX
        have e1 : Fs' c = G := funext fun y => propext (ei y)
        rw [e1, h2]
        simpa [Slots.put] using hz
      · have h3 : SlotIs (fun k qs G => Trie H X tk lv base w1 n (l + 1) k qs G) (S c) (sub H l c ps) (Fs c) := (hS c hc).keep hT1 hk (fun y hy hg => by
          have h4 := hold c y hc hg
          exact ee ((hN.yes h4.1).2.2.2 c i y hc hi hg hy)) hfi.1
        have h4 : SlotIs (fun k qs G => Trie H X tk lv base w2 n (l + 1) k qs G) (S c) (sub H l c ps) (Fs c) := h3.keep hT2 hYk (fun y hy hg => hown y hy c hc ((ec c y ee).2 hg)) hYX
        have e1 : Fs' c = Fs c := funext fun y => propext (ec c y ee)
        rw [e1, h1 c ee]
        simpa [Slots.put, ee] using h4
  · have hFi : ∀ y, Fs i y → F y := fun y hy => ((hN.yes (hold i y hi hy).1).2.1 y).2 (.inr ⟨i, hi, hy⟩)
    exact (hk.mono fun y hy => .inl (hFi y hy)).trans (hYk.mono fun y hy => .inl (by
      obtain ⟨ho, hy⟩ := (hY y).1 hy
      exact ((hN.yes ho).2.1 y).2 (.inl hy)))
  · rintro y ⟨e, hy | ⟨c, hc', hy⟩⟩
    · rcases hcg.foot y hy with ⟨ho, hm⟩ | hm
      · exact .inl (((hN.yes ho).2.1 y).2 (.inl hm))
      · exact .inr (Nat.le_trans hs1 hm)
    · by_cases ee : c = i
      · subst ee
        rcases hG y ((ei y).1 hy) with h | h
        · exact .inl (((hN.yes (hold c y hi h).1).2.1 y).2 (.inr ⟨c, hi, h⟩))
        · exact .inr h
      · have h := (ec c y ee).1 hy
        exact .inl (((hN.yes (hold c y hc' h).1).2.1 y).2 (.inr ⟨c, hc', h⟩))
end
end Go.Proofs.Ytfmbikmpobieoaa
