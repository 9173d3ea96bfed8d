/- The law's world: nodes, tokens and the document's nodes beside one another. -/
import Derived.Test.YtgldgdpgbfejmaaXe
import Derived.Test.YtgldgdpgbfejmaaMR
namespace Go.Proofs.Ytgldgdpgbfejmaa
open Go.RowKit Go.Lib Go.Conc
set_option linter.unusedVariables false
set_option linter.unusedSimpArgs false
/-- a node's block, its lists -/
structure NB where
  b : Nat
  pv : Value
  kv : Value
def NB.foot (n : NB) : List Nat := Ytgldgdpgbfejmaa.foot n.b n.pv n.kv
/-- children by their blocks -/
def mapK (bl : List Nat) (S : Slots) : Slots := fun i => match S i with
  | .kd k => .kd (bl[k]?.getD 0)
  | x => x
theorem mapK_put (bl : List Nat) (S : Slots) (i : Nat) (x : Sl) : mapK bl (S.put i x) = (mapK bl S).put i (match x with | .kd k => .kd (bl[k]?.getD 0) | y => y) := by
  funext j
  unfold mapK Slots.put
  by_cases h : j = i
  · simp [h]
  · simp [h]
theorem mapK_more (bl : List Nat) (b : Nat) (S : Slots) (h : ∀ i k, S i = .kd k → k < bl.length) : mapK (bl ++ [b]) S = mapK bl S := by
  funext j
  unfold mapK
  cases hs : S j with
  | no => rfl
  | pr p => rfl
  | kd k =>
    have := h j k hs
    simp [List.getElem?_append_left this]
/-- the token of a number -/
def owO (ts : List (Option Nat)) (o : Nat) : Option Nat := (ts[o]?).getD none
/-- a node of the program is a node of the document -/
def NodeIs (base : Nat) (w : World) (ts : List (Option Nat)) (bl : List Nat) (n : NB) (r : RN) : Prop :=
  if r.bk = true then (∀ i, r.S i = .no) ∧ Bck base w n.b (owO ts r.ow) r.L n.pv n.kv
  else r.L = [] ∧ Inn base w n.b (owO ts r.ow) (mapK bl r.S) n.pv n.kv
theorem NodeIs.ndv {base : Nat} {w : World} {ts : List (Option Nat)} {bl : List Nat} {n : NB} {r : RN} (h : NodeIs base w ts bl n r) : ∃ d nn xs ks, NdV base w n.b (pt (owO ts r.ow)) r.bk d nn n.pv n.kv xs ks ∧ xs.length ≤ r.L.length + 32 ∧ ks.length ≤ 32 := by
  unfold NodeIs at h
  split at h
  · rename_i hb
    refine ⟨0, 0, r.L, [], ?_, by omega, by simp⟩
    have := h.2.1
    rw [hb]; exact this
  · rename_i hb
    obtain ⟨-, d, nn, h, -, -⟩ := h
    refine ⟨d, nn, fm (mapK bl r.S).P 32, fm (mapK bl r.S).K 32, ?_, ?_, fm_len_le _ _⟩
    · have : r.bk = false := by simpa using hb
      rw [this]; exact h
    · have := fm_len_le (mapK bl r.S).P 32
      omega
section
variable {base : Nat} {w w' : World} {ts : List (Option Nat)} {bl : List Nat} {n : NB} {r : RN}
theorem NodeIs.keep (h : NodeIs base w ts bl n r) {X : List Nat} (hk : Keep X w w') (hX : ∀ x ∈ n.foot, x ∉ X) : NodeIs base w' ts bl n r := by
  unfold NodeIs at h ⊢
  split at h
  · rename_i hb
    rw [if_pos hb]
    exact ⟨h.1, h.2.1.keep hk hX, h.2.2⟩
  · rename_i hb
    rw [if_neg hb]
    exact ⟨h.1, h.2.keep hk hX⟩
theorem NodeIs.below (h : NodeIs base w ts bl n r) (hb : Below w.heap.size w w') : NodeIs base w' ts bl n r := h.keep (Keep.of_below (X := []) hb) (by simp)
theorem NodeIs.more (h : NodeIs base w ts bl n r) (b : Nat) (hk : ∀ i k, r.S i = .kd k → k < bl.length) : NodeIs base w ts (bl ++ [b]) n r := by
  unfold NodeIs at h ⊢
  split at h
  · rename_i hb
    rw [if_pos hb]; exact h
  · rename_i hb
    rw [if_neg hb, mapK_more bl b r.S hk]; exact h
/-- of which types a node's blocks are -/
theorem NodeIs.types (h : NodeIs base w ts bl n r) : ∀ x ∈ n.foot, ∃ cs t, w.heap[x]? = some (.cells cs t (0, 0)) ∧ (t = 98 ∨ t = 27 ∨ t = 39) := by
  obtain ⟨d, nn, xs, ks, h, -, -⟩ := h.ndv
  intro x hx
  unfold NB.foot at hx
  simp only [foot, List.mem_cons, List.mem_append, Option.mem_toList] at hx
  rcases hx with rfl | e | e
  · exact ⟨_, 98, h.blk, .inl rfl⟩
  · obtain ⟨cs, hc⟩ := own_cells h.prs x e; exact ⟨cs, 27, hc, .inr (.inl rfl)⟩
  · obtain ⟨cs, hc⟩ := own_cells h.kds x e; exact ⟨cs, 39, hc, .inr (.inr rfl)⟩
theorem NodeIs.footGe (h : NodeIs base w ts bl n r) : ∀ x ∈ n.foot, base ≤ x := by
  obtain ⟨d, nn, xs, ks, h, -, -⟩ := h.ndv
  exact h.footGe
theorem NodeIs.footLt (h : NodeIs base w ts bl n r) : ∀ x ∈ n.foot, x < w.heap.size := by
  obtain ⟨d, nn, xs, ks, h, -, -⟩ := h.ndv
  exact h.footLt
theorem NodeIs.blk (h : NodeIs base w ts bl n r) : ∃ cs, Blk w n.b 98 cs := by
  obtain ⟨d, nn, xs, ks, h, -, -⟩ := h.ndv
  exact ⟨_, h.blk⟩
end
/-- the tokens: their blocks, who is live -/
structure Tks (w : World) (p c : Nat) (ts : List (Option Nat)) (lv : List Bool) : Prop where
  len : ts.length = 5
  llen : lv.length = 5
  zero : ts[0]? = some none ∧ lv[0]? = some false
  tok : ∀ i, 0 < i → i < 5 → ∃ t b, ts[i]? = some (some t) ∧ lv[i]? = some b ∧ Tok w t p i b
  pool : ∃ out q, Pool w p c 4 out q ∧ out = ((lv.filter id).length : Int) ∧ q.length + (lv.filter id).length = 4
/-- all of it -/
structure St (base : Nat) (w : World) (wb p c xb : Nat) (lw tw Nv Lv : Value) (ts : List (Option Nat)) (lv : List Bool) (bs : List NB) (ns : List (RN × Value)) : Prop where
  blk : Blk w wb 36 #[lw, tw, at0 p, at0 xb]
  ge : base ≤ wb ∧ base ≤ p ∧ base ≤ c
  tge : ∀ t, some t ∈ ts → base ≤ t
  l : OwnK base w lw (bs.map (·.b))
  t : w.ownsRow base 64 1 tw 5 (ts.map pt)
  tks : Tks w p c ts lv
  ref : RefA base w xb Nv Lv ns lv
  len : bs.length = ns.length
  nodes : ∀ (j : Nat) (n : NB) (r : RN × Value), bs[j]? = some n → ns[j]? = some r → NodeIs base w ts (bs.map (·.b)) n r.1
  kids : ∀ r ∈ ns, ∀ i k, r.1.S i = .kd k → k < ns.length
  ows : ∀ r ∈ ns, r.1.ow < 5
  disj : ∀ (i j : Nat) (ni nj : NB), i ≠ j → bs[i]? = some ni → bs[j]? = some nj → ∀ x ∈ ni.foot, x ∉ nj.foot
  lfoot : ∀ n ∈ bs, ∀ x, lw.ownBlock = some x → x ∉ n.foot
  sized : ∀ r ∈ ns, Sized r.1.L

section
variable {base : Nat} {w w' : World} {wb p c xb : Nat} {lw tw Nv Lv : Value} {ts : List (Option Nat)} {lv : List Bool} {bs : List NB} {ns : List (RN × Value)}
theorem Tks.keep (h : Tks w p c ts lv) {X : List Nat} (hk : Keep X w w') (hX : ∀ x ∈ X, ∃ cs t, w.heap[x]? = some (.cells cs t (0, 0)) ∧ t ≠ 112 ∧ t ≠ 110) : Tks w' p c ts lv := by
  have hp : ∀ x ∈ X, x ≠ p ∧ x ≠ c := fun x hx => by
    obtain ⟨cs, t, hc, h1, h2⟩ := hX x hx
    obtain ⟨out, q, hP, -, -⟩ := h.pool
    obtain ⟨hb, s, r, hch⟩ := hP
    constructor
    · rintro rfl; unfold Blk at hb; rw [hb] at hc; cases hc; exact h2 rfl
    · rintro rfl; rw [hch] at hc; cases hc
  refine ⟨h.len, h.llen, h.zero, fun i h0 h5 => ?_, ?_⟩
  · obtain ⟨t, b, e1, e2, hT⟩ := h.tok i h0 h5
    refine ⟨t, b, e1, e2, hT.keep hk fun hm => ?_⟩
    obtain ⟨cs, ty, hc, h1, h2⟩ := hX t hm
    unfold Tok Blk at hT; rw [hT] at hc; cases hc; exact h1 rfl
  · obtain ⟨out, q, hP, h1, h2⟩ := h.pool
    exact ⟨out, q, hP.keep hk (fun hm => (hp p hm).1 rfl) (fun hm => (hp c hm).2 rfl), h1, h2⟩
/-- what changes no block of it keeps it: blocks of other types, new ones -/
theorem St.below (h : St base w wb p c xb lw tw Nv Lv ts lv bs ns) (hb : Below w.heap.size w w') : St base w' wb p c xb lw tw Nv Lv ts lv bs ns :=
  ⟨h.blk.below hb, h.ge, h.tge, h.l.below hb, own_keep h.t (Keep.of_below (X := []) hb) (by simp), h.tks.keep (Keep.of_below (X := []) hb) (by simp), h.ref.below hb, h.len, fun j n r h1 h2 => (h.nodes j n r h1 h2).below hb, h.kids, h.ows, h.disj, h.lfoot, h.sized⟩
theorem Tks.tv (h : Tks w p c ts lv) (i : Nat) (hi : i < 5) : ∃ b, lv[i]? = some b ∧ TV w (owO ts i) (liveB i lv) ∧ (liveB i lv = (decide (0 < i) && b)) := by
  by_cases h0 : i = 0
  · subst h0
    refine ⟨false, h.zero.2, ?_, by simp [liveB]⟩
    unfold owO
    rw [h.zero.1]
    simp only [liveB]
    exact TV.nil _
  · obtain ⟨t, b, e1, e2, hT⟩ := h.tok i (by omega) hi
    have e3 : liveB i lv = b := by unfold liveB; rw [e2]; simp; omega
    refine ⟨b, e2, ?_, by rw [e3]; simp; omega⟩
    unfold owO
    rw [e1, e3]
    exact TV.tok hT
/-- tokens are told apart by their numbers -/
theorem Tks.inj (h : Tks w p c ts lv) (i j : Nat) (hi : i < 5) (hj : j < 5) (hj0 : 0 < j) : owO ts i = owO ts j ↔ i = j := by
  refine ⟨fun e => ?_, fun e => by rw [e]⟩
  obtain ⟨t, b, e1, e2, hT⟩ := h.tok j hj0 hj
  have ej : owO ts j = some t := by unfold owO; rw [e1]; rfl
  rw [ej] at e
  by_cases h0 : i = 0
  · subst h0
    unfold owO at e
    rw [h.zero.1] at e
    cases e
  · obtain ⟨t', b', e1', e2', hT'⟩ := h.tok i (by omega) hi
    have ei : owO ts i = some t' := by unfold owO; rw [e1']; rfl
    rw [ei] at e
    obtain rfl := Option.some.inj e
    unfold Tok Blk at hT hT'
    rw [hT] at hT'
    simp at hT'
    omega
/-- both say alike who may change a node in place -/
theorem Tks.own (h : Tks w p c ts lv) (r : RN) (who : Nat) (ho : r.ow < 5) (hw : who < 5) : ownB (owO ts r.ow) (owO ts who) (liveB who lv) = refOwn r who lv := by
  unfold ownB refOwn
  cases hl : liveB who lv with
  | false => rfl
  | true =>
    have h0 : 0 < who := by unfold liveB at hl; simp at hl; exact hl.1
    have := h.inj r.ow who ho hw h0
    rw [Bool.true_and, Bool.true_and, Bool.eq_iff_iff]
    simp [this]
theorem Tks.newOw (h : Tks w p c ts lv) (r : RN) (who : Nat) : Ytgldgdpgbfejmaa.newOw (owO ts who) (liveB who lv) = owO ts (rnOf r who lv).ow := by
  unfold Ytgldgdpgbfejmaa.newOw rnOf
  cases hl : liveB who lv with
  | true => rfl
  | false =>
    simp only [Bool.false_eq_true, if_false]
    unfold owO
    rw [h.zero.1]; rfl
end
end Go.Proofs.Ytgldgdpgbfejmaa
/- The law's world behind a change: on both sides at once. -/
namespace Go.Proofs.Ytgldgdpgbfejmaa
open Go.RowKit Go.Lib Go.Conc
set_option linter.unusedVariables false
set_option linter.unusedSimpArgs false
/-- what a call of the reference turns -/
def turnX (w : World) : List Nat := (List.range w.heap.size).filter fun b => match w.heap[b]? with
  | some (.cells _ t _) => t == 85 || t == 89
  | _ => false
theorem turnX_mem {w : World} {x : Nat} (h : x ∈ turnX w) : ∃ cs t fr, w.heap[x]? = some (.cells cs t fr) ∧ (t = 85 ∨ t = 89) := by
  unfold turnX at h
  obtain ⟨-, h⟩ := List.mem_filter.1 h
  split at h
  · rename_i cs t fr e
    exact ⟨cs, t, fr, e, by simpa using h⟩
  · cases h
theorem turnX_in {w : World} {x : Nat} {cs : Array Value} {t : TypeId} {fr : Nat × Nat} (h : w.heap[x]? = some (.cells cs t fr)) (ht : t = 85 ∨ t = 89) : x ∈ turnX w := by
  unfold turnX
  have hl : x < w.heap.size := by
    rcases Nat.lt_or_ge x w.heap.size with e | e
    · exact e
    · rw [Array.getElem?_eq_none e] at h; cases h
  refine List.mem_filter.2 ⟨List.mem_range.2 hl, ?_⟩
  rw [h]
  simpa using ht
theorem KeepA.keepX {base : Nat} {w w' : World} (h : KeepA base w w') : Keep (turnX w) w w' :=
  ⟨h.below.mono (Nat.zero_le _), fun b hb hx => h.block b hb (fun cs fr e => hx (turnX_in e (.inl rfl))) (fun cs fr e => hx (turnX_in e (.inr rfl)))⟩
/-- a node, changed in place or made anew -/
def chgL {α : Type} (xs : List α) (own : Bool) (n : Nat) (x : α) : List α := if own = true then xs.set n x else xs ++ [x]
theorem nsOf_set (ns : List (RN × Value)) (own : Bool) (n : Nat) (x y : RN × Value) : (nsOf ns own x).set (atOf ns own n) y = chgL ns own n y := by
  unfold nsOf atOf chgL
  cases own with
  | true => rfl
  | false => simp
theorem chgL_len {α : Type} (xs : List α) (own : Bool) (n : Nat) (x : α) : (chgL xs own n x).length = xs.length + (if own = true then 0 else 1) := by
  unfold chgL; cases own <;> simp
theorem chgL_mem {α : Type} {xs : List α} {own : Bool} {n : Nat} {x y : α} (h : y ∈ chgL xs own n x) : y ∈ xs ∨ y = x := by
  unfold chgL at h
  split at h
  · exact List.mem_or_eq_of_mem_set h
  · simpa using h
/-- the j-th behind a change: the old j-th, or the new one at its place -/
theorem chgL_get {α : Type} {xs : List α} {own : Bool} {n j : Nat} {x y : α} (hn : n < xs.length) (h : (chgL xs own n x)[j]? = some y) :
    (xs[j]? = some y ∧ j ≠ (if own = true then n else xs.length)) ∨ (y = x ∧ j = (if own = true then n else xs.length)) := by
  unfold chgL at h
  cases own with
  | true =>
    rw [if_pos rfl] at h ⊢
    by_cases e : n = j
    · subst e
      rw [List.getElem?_set_self hn] at h
      exact .inr ⟨(Option.some.inj h).symm, rfl⟩
    · rw [List.getElem?_set_ne e] at h
      exact .inl ⟨h, fun e' => e e'.symm⟩
  | false =>
    simp only [Bool.false_eq_true, if_false] at h ⊢
    rcases Nat.lt_or_ge j xs.length with e | e
    · rw [List.getElem?_append_left e] at h
      exact .inl ⟨h, by omega⟩
    · rw [List.getElem?_append_right e] at h
      have hj : j - xs.length = 0 := by
        have := (List.getElem?_eq_some_iff.1 h).1
        simp at this; omega
      rw [hj] at h
      exact .inr ⟨by simpa using h.symm, by omega⟩
/-- nodes, tokens, and the document's: but for the lists they stand in -/
structure Cr (base : Nat) (w : World) (p c xb : Nat) (Nv Lv : Value) (ts : List (Option Nat)) (lv : List Bool) (bs : List NB) (ns : List (RN × Value)) : Prop where
  ge : base ≤ p ∧ base ≤ c
  tge : ∀ t, some t ∈ ts → base ≤ t
  tks : Tks w p c ts lv
  ref : RefA base w xb Nv Lv ns lv
  len : bs.length = ns.length
  nodes : ∀ (j : Nat) (n : NB) (r : RN × Value), bs[j]? = some n → ns[j]? = some r → NodeIs base w ts (bs.map (·.b)) n r.1
  kids : ∀ r ∈ ns, ∀ i k, r.1.S i = .kd k → k < ns.length
  ows : ∀ r ∈ ns, r.1.ow < 5
  disj : ∀ (i j : Nat) (ni nj : NB), i ≠ j → bs[i]? = some ni → bs[j]? = some nj → ∀ x ∈ ni.foot, x ∉ nj.foot
  sized : ∀ r ∈ ns, Sized r.1.L
/-- the lists -/
structure Li (base : Nat) (w : World) (wb p xb : Nat) (lw tw : Value) (ts : List (Option Nat)) (bl : List Nat) (bs : List NB) : Prop where
  blk : Blk w wb 36 #[lw, tw, at0 p, at0 xb]
  ge : base ≤ wb
  l : OwnK base w lw bl
  t : w.ownsRow base 64 1 tw 5 (ts.map pt)
  lfoot : ∀ n ∈ bs, ∀ x, lw.ownBlock = some x → x ∉ n.foot
/-- few acts: few nodes -/
def Few (m : Nat) (ns : List (RN × Value)) : Prop := (0 < ns.length ∧ ns.length ≤ m + 2) ∧ ∀ r ∈ ns, r.1.L.length ≤ m
section
variable {base : Nat} {w w' w1 w2 : World} {wb p c xb : Nat} {lw tw Nv Lv Nv' : Value} {ts : List (Option Nat)} {lv : List Bool} {bs : List NB} {ns : List (RN × Value)} {bl : List Nat}
theorem Cr.below (h : Cr base w p c xb Nv Lv ts lv bs ns) (hb : Below w.heap.size w w') : Cr base w' p c xb Nv Lv ts lv bs ns :=
  ⟨h.ge, h.tge, h.tks.keep (Keep.of_below (X := []) hb) (by simp), h.ref.below hb, h.len, fun j n r h1 h2 => (h.nodes j n r h1 h2).below hb, h.kids, h.ows, h.disj, h.sized⟩
theorem Li.below (h : Li base w wb p xb lw tw ts bl bs) (hb : Below w.heap.size w w') : Li base w' wb p xb lw tw ts bl bs :=
  ⟨h.blk.below hb, h.ge, h.l.below hb, own_keep h.t (Keep.of_below (X := []) hb) (by simp), h.lfoot⟩
theorem Cr.node (h : Cr base w p c xb Nv Lv ts lv bs ns) (n : Nat) (hn : n < ns.length) : ∃ nb r, bs[n]? = some nb ∧ ns[n]? = some r ∧ NodeIs base w ts (bs.map (·.b)) nb r.1 := by
  have hb : n < bs.length := by rw [h.len]; exact hn
  exact ⟨bs[n], ns[n], List.getElem?_eq_getElem hb, List.getElem?_eq_getElem hn, h.nodes n _ _ (List.getElem?_eq_getElem hb) (List.getElem?_eq_getElem hn)⟩
/-- blocks of other types are turned -/
theorem NodeIs.keepT {nb : NB} {r : RN} (h : NodeIs base w ts bl nb r) {X : List Nat} (hk : Keep X w w') (hX : ∀ x ∈ X, ∃ cs t fr, w.heap[x]? = some (.cells cs t fr) ∧ (t = 85 ∨ t = 89)) : NodeIs base w' ts bl nb r := by
  refine h.keep hk fun x hx hm => ?_
  obtain ⟨cs, t, e, ht⟩ := h.types x hx
  obtain ⟨cs', t', fr, e', ht'⟩ := hX x hm
  rw [e] at e'; cases e'
  rcases ht with rfl | rfl | rfl <;> rcases ht' with ht' | ht' <;> exact absurd ht' (by decide)
theorem Tks.keepA (h : Tks w p c ts lv) (hk : KeepA base w w') : Tks w' p c ts lv := by
  have hp : ∀ x ∈ turnX w, x ≠ p ∧ x ≠ c := fun x hx => by
    obtain ⟨cs, t, fr, hc, ht⟩ := turnX_mem hx
    obtain ⟨out, q, hP, -, -⟩ := h.pool
    obtain ⟨hb, s, r, hch⟩ := hP
    constructor
    · rintro rfl; unfold Blk at hb; rw [hb] at hc; cases hc; revert ht; decide
    · rintro rfl; rw [hch] at hc; cases hc
  refine ⟨h.len, h.llen, h.zero, fun i h0 h5 => ?_, ?_⟩
  · obtain ⟨t, b, e1, e2, hT⟩ := h.tok i h0 h5
    refine ⟨t, b, e1, e2, hT.keep hk.keepX fun hm => ?_⟩
    obtain ⟨cs, ty, fr, hc, ht⟩ := turnX_mem hm
    unfold Tok Blk at hT; rw [hT] at hc; cases hc; revert ht; decide
  · obtain ⟨out, q, hP, h1, h2⟩ := h.pool
    exact ⟨out, q, hP.keep hk.keepX (fun hm => (hp p hm).1 rfl) (fun hm => (hp c hm).2 rfl), h1, h2⟩
/-- the program's change leaves the reference -/
theorem RefA.chg (h : RefA base w xb Nv Lv ns lv) {nb nb' : NB} {r : RN} {own : Bool} (hN : NodeIs base w ts bl nb r) (hc : Chg own nb.b nb.pv nb.kv nb'.b nb'.pv nb'.kv w w1) : RefA base w1 xb Nv Lv ns lv := by
  refine h.keepT hc.keep fun x hx cs' t' e' => ?_
  split at hx
  · obtain ⟨cs, t, e, ht⟩ := hN.types x hx
    rw [e] at e'; cases e'
    rcases ht with rfl | rfl | rfl <;> decide
  · cases hx
theorem Tks.chg (h : Tks w p c ts lv) {nb nb' : NB} {r : RN} {own : Bool} (hN : NodeIs base w ts bl nb r) (hc : Chg own nb.b nb.pv nb.kv nb'.b nb'.pv nb'.kv w w1) : Tks w1 p c ts lv := by
  refine h.keep hc.keep fun x hx => ?_
  split at hx
  · obtain ⟨cs, t, e, ht⟩ := hN.types x hx
    exact ⟨cs, t, e, by rcases ht with rfl | rfl | rfl <;> decide⟩
  · cases hx
/-- A CHANGE, ON BOTH SIDES -/
theorem Cr.change (h : Cr base w p c xb Nv Lv ts lv bs ns) {n : Nat} {nb nb' : NB} {r : RN × Value} {r' : RN} {vl' : Value} {own : Bool} (hn : bs[n]? = some nb) (hr : ns[n]? = some r)
    (hc : Chg own nb.b nb.pv nb.kv nb'.b nb'.pv nb'.kv w w1) (hI : NodeIs base w1 ts (bs.map (·.b)) nb' r')
    (hA : RefA base w2 xb Nv' Lv (chgL ns own n (r', vl')) lv) (hK : KeepA base w1 w2)
    (hk : ∀ i k, r'.S i = .kd k → k < ns.length) (ho : r'.ow < 5) (hz : Sized r'.L) :
    Cr base w2 p c xb Nv' Lv ts lv (chgL bs own n nb') (chgL ns own n (r', vl')) := by
  have hN := h.nodes n nb r hn hr
  have hnb := (List.getElem?_eq_some_iff.1 hn).1
  have hnr := (List.getElem?_eq_some_iff.1 hr).1
  have hlen : (chgL bs own n nb').length = (chgL ns own n (r', vl')).length := by rw [chgL_len, chgL_len, h.len]
  have hle : ns.length ≤ (chgL ns own n (r', vl')).length := by rw [chgL_len]; omega
  -- what a node is behind it
  have up : ∀ (m : NB) (q : RN), (∀ i k, q.S i = .kd k → k < ns.length) → NodeIs base w2 ts (bs.map (·.b)) m q → NodeIs base w2 ts ((chgL bs own n nb').map (·.b)) m q := by
    intro m q hq hm
    unfold chgL
    cases own with
    | true =>
      rw [if_pos rfl]
      have e1 : (bs.set n nb').map (·.b) = bs.map (·.b) := by
        rw [List.map_set, hc.place rfl]
        apply List.ext_getElem?
        intro j
        by_cases e : n = j
        · subst e
          rw [List.getElem?_set_self (by simpa using hnb), List.getElem?_map, hn]; rfl
        · rw [List.getElem?_set_ne e]
      rw [e1]; exact hm
    | false =>
      simp only [Bool.false_eq_true, if_false, List.map_append, List.map_cons, List.map_nil]
      exact hm.more _ (fun i k e => by rw [List.length_map, h.len]; exact hq i k e)
  refine ⟨h.ge, h.tge, (h.tks.chg hN hc).keepA hK, hA, hlen, fun j m q hm hq => ?_, fun q hq i k e => ?_, fun q hq => ?_, fun i j ni nj hij hi hj x hx => ?_, fun q hq => ?_⟩
  · rcases chgL_get hnb hm with ⟨h1, h2⟩ | ⟨rfl, h2⟩
    · rcases chgL_get hnr hq with ⟨h3, h4⟩ | ⟨rfl, h4⟩
      · refine up m q.1 (fun i k e => h.kids q (List.mem_of_getElem? h3) i k e) (((h.nodes j m q h1 h3).keep hc.keep fun x hx hm' => ?_).keepT hK.keepX fun x hx => turnX_mem hx)
        split at hm'
        · rename_i ht
          rw [if_pos ht] at h2
          exact h.disj j n m nb h2 h1 hn x hx hm'
        · cases hm'
      · exfalso; rw [← h.len] at h4; exact h2 h4
    · rcases chgL_get hnr hq with ⟨h3, h4⟩ | ⟨rfl, h4⟩
      · exfalso; rw [← h.len] at h4; exact h4 h2
      · exact up _ _ hk (hI.keepT hK.keepX fun x hx => turnX_mem hx)
  · rcases chgL_mem hq with h1 | rfl
    · exact Nat.lt_of_lt_of_le (h.kids q h1 i k e) hle
    · exact Nat.lt_of_lt_of_le (hk i k e) hle
  · rcases chgL_mem hq with h1 | rfl
    · exact h.ows q h1
    · exact ho
  · have old : ∀ (j : Nat) (m : NB), bs[j]? = some m → ∀ x ∈ m.foot, x < w.heap.size := fun j m hm => by
      have hj := (List.getElem?_eq_some_iff.1 hm).1
      rw [h.len] at hj
      exact (h.nodes j m _ hm (List.getElem?_eq_getElem hj)).footLt
    -- the new one against an old one
    have new : ∀ (j : Nat) (m : NB), bs[j]? = some m → j ≠ (if own = true then n else bs.length) → ∀ x ∈ nb'.foot, x ∉ m.foot := by
      intro j m hm hj x hx hx'
      rcases hc.foot x hx with ⟨e1, e2⟩ | e1
      · rw [if_pos e1] at hj
        exact h.disj j n m nb hj hm hn x hx' e2
      · have := old j m hm x hx'
        omega
    rcases chgL_get hnb hi with ⟨h1, h2⟩ | ⟨rfl, h2⟩
    · rcases chgL_get hnb hj with ⟨h3, h4⟩ | ⟨rfl, h4⟩
      · exact h.disj i j ni nj hij h1 h3 x hx
      · exact fun hx' => new i ni h1 h2 x hx' hx
    · rcases chgL_get hnb hj with ⟨h3, h4⟩ | ⟨rfl, h4⟩
      · exact new j nj h3 h4 x hx
      · exact absurd (h2.trans h4.symm) hij
  · rcases chgL_mem hq with h1 | rfl
    · exact h.sized q h1
    · exact hz
theorem Li.change (h : Li base w wb p xb lw tw ts bl bs) {n : Nat} {nb nb' : NB} {r : RN} {own : Bool} (hn : bs[n]? = some nb) (hN : NodeIs base w ts bl nb r)
    (hc : Chg own nb.b nb.pv nb.kv nb'.b nb'.pv nb'.kv w w1) (hK : KeepA base w1 w2) : Li base w2 wb p xb lw tw ts bl (chgL bs own n nb') := by
  have hX : ∀ x ∈ (if own = true then foot nb.b nb.pv nb.kv else []), x ∈ nb.foot := fun x hx => by
    split at hx
    · exact hx
    · cases hx
  have k1 : Blk w1 wb 36 #[lw, tw, at0 p, at0 xb] := h.blk.keep hc.keep fun hm => by
    obtain ⟨cs, t, e, ht⟩ := hN.types _ (hX _ hm)
    have := h.blk
    unfold Blk at this; rw [this] at e; cases e; revert ht; decide
  have k2 : OwnK base w1 lw bl := own_keep h.l hc.keep fun x hx e => h.lfoot nb (List.mem_of_getElem? hn) x e (hX x hx)
  have k3 : w1.ownsRow base 64 1 tw 5 (ts.map pt) := own_keep h.t hc.keep fun x hx e => by
    obtain ⟨cs, hcs⟩ := own_cells h.t x e
    obtain ⟨cs', t, e, ht⟩ := hN.types _ (hX _ hx)
    rw [hcs] at e; cases e; revert ht; decide
  refine ⟨hK.cellOf k1 (by decide) (by decide), h.ge, own_keep k2 hK.keepX fun x hx e => ?_, own_keep k3 hK.keepX fun x hx e => ?_, fun m hm x hx hf => ?_⟩
  · obtain ⟨cs, hcs⟩ := own_cells k2 x e
    obtain ⟨cs', t, fr, e', ht⟩ := turnX_mem hx
    rw [hcs] at e'; cases e'; revert ht; decide
  · obtain ⟨cs, hcs⟩ := own_cells k3 x e
    obtain ⟨cs', t, fr, e', ht⟩ := turnX_mem hx
    rw [hcs] at e'; cases e'; revert ht; decide
  · rcases chgL_mem hm with h1 | rfl
    · exact h.lfoot m h1 x hx hf
    · rcases hc.foot x hf with ⟨e1, e2⟩ | e1
      · exact h.lfoot nb (List.mem_of_getElem? hn) x hx e2
      · obtain ⟨cs, hcs⟩ := own_cells h.l x hx
        have : x < w.heap.size := by
          rcases Nat.lt_or_ge x w.heap.size with e | e
          · exact e
          · rw [Array.getElem?_eq_none e] at hcs; cases hcs
        omega
/-- nothing changed -/
theorem chgL_same {α : Type} {xs : List α} {n : Nat} {x : α} (h : xs[n]? = some x) : chgL xs true n x = xs := by
  unfold chgL
  rw [if_pos rfl]
  apply List.ext_getElem?
  intro j
  by_cases e : n = j
  · subst e
    rw [List.getElem?_set_self (List.getElem?_eq_some_iff.1 h).1, h]
  · rw [List.getElem?_set_ne e]
theorem Few.change {m : Nat} (h : Few m ns) (own : Bool) (n : Nat) (x : RN × Value) (hx : x.1.L.length ≤ m + 1) : Few (m + 1) (chgL ns own n x) := by
  refine ⟨?_, fun q hq => ?_⟩
  · rw [chgL_len]; have := h.1; constructor <;> (split <;> omega)
  · rcases chgL_mem hq with h1 | rfl
    · have := h.2 q h1; omega
    · exact hx
end
end Go.Proofs.Ytgldgdpgbfejmaa
/- Each change as the law makes it: the program's call, the reference's. -/
namespace Go.Proofs.Ytgldgdpgbfejmaa
open Go.RowKit Go.Lib Go.Conc
set_option linter.unusedVariables false
set_option linter.unusedSimpArgs false
/-- what a chunk's change makes of a node: in place or not, and what is there then -/
def setR (r : RN) (who : Nat) (lv : List Bool) (i : Int) (x : Sl) : Bool × RN :=
  if r.bk = true ∨ i < 0 ∨ 32 ≤ i then (true, r) else (refOwn r who lv, { rnOf r who lv with S := (rnOf r who lv).S.put i.toNat x })
def chaR (r : RN) (who : Nat) (lv : List Bool) (L : List Pr) : Bool × RN :=
  if r.bk = true then (refOwn r who lv, { rnOf r who lv with L := L }) else (true, r)
/-- a change by the program -/
def PPost (base : Nat) (ts : List (Option Nat)) (bl : List Nat) (nb : NB) (y : Bool × RN) (w : World) (e : Ending) (w1 : World) : Prop :=
  ∃ nb' : NB, e = .returned (at0 nb'.b) ∧ NodeIs base w1 ts bl nb' y.2 ∧ Chg y.1 nb.b nb.pv nb.kv nb'.b nb'.pv nb'.kv w w1
/-- a change by the reference -/
def RPost (base xb n : Nat) (Lv : Value) (ns : List (RN × Value)) (lv : List Bool) (y : Bool × RN) (w : World) (e : Ending) (w' : World) : Prop :=
  ∃ Nv' vl', e = .returned (.int .i64 (atOf ns y.1 n : Nat)) ∧ RefA base w' xb Nv' Lv (chgL ns y.1 n (y.2, vl')) lv ∧ KeepA base w w'
section
variable {base : Nat} {w w' : World} {p c xb : Nat} {Nv Lv : Value} {ts : List (Option Nat)} {lv : List Bool} {bl : List Nat} {nb : NB} {r : RN} {who : Nat} {ns : List (RN × Value)} {rv : RN × Value}
theorem PPost.same (h : NodeIs base w ts bl nb r) (hB : Below w.heap.size w w') : PPost base ts bl nb (true, r) w (.returned (at0 nb.b)) w' :=
  ⟨nb, rfl, h.below hB, fun _ => rfl, (fun e => by cases e), fun x hx => .inl ⟨rfl, hx⟩, Keep.of_below hB⟩
theorem RPost.same {n : Nat} (h : RefA base w xb Nv Lv ns lv) (hr : ns[n]? = some rv) (hB : Below w.heap.size w w') (hb : base ≤ w.heap.size) : RPost base xb n Lv ns lv (true, rv.1) w (.returned (.int .i64 (n : Nat))) w' :=
  ⟨Nv, rv.2, rfl, by rw [chgL_same (x := (rv.1, rv.2)) hr]; exact h.below hB, KeepA.ofBelow hB hb⟩
theorem NodeIs.inner (h : NodeIs base w ts bl nb r) (hb : ¬ r.bk = true) : r.L = [] ∧ Inn base w nb.b (owO ts r.ow) (mapK bl r.S) nb.pv nb.kv := by
  unfold NodeIs at h; rw [if_neg hb] at h; exact h
theorem NodeIs.bucket (h : NodeIs base w ts bl nb r) (hb : r.bk = true) : (∀ i, r.S i = .no) ∧ Bck base w nb.b (owO ts r.ow) r.L nb.pv nb.kv := by
  unfold NodeIs at h; rw [if_pos hb] at h; exact h
/-- an inner node's chunk behind a change -/
theorem PPost.set (hT : Tks w p c ts lv) (ho : r.ow < 5) (hw : who < 5) (h : NodeIs base w ts bl nb r) {i : Int} (x : Sl) (hi : ¬ (r.bk = true ∨ i < 0 ∨ 32 ≤ i)) {e : Ending}
    (hp : InnPost base (ownB (owO ts r.ow) (owO ts who) (liveB who lv)) nb.b nb.pv nb.kv (newOw (owO ts who) (liveB who lv)) (mapK bl (r.S.put i.toNat x)) w e w') : PPost base ts bl nb (setR r who lv i x) w e w' := by
  obtain ⟨b1, pv1, kv1, rfl, h1, hc⟩ := hp
  unfold setR
  rw [if_neg hi]
  rw [hT.own r who ho hw] at hc
  rw [hT.newOw r who] at h1
  refine ⟨⟨b1, pv1, kv1⟩, rfl, ?_, hc⟩
  unfold NodeIs
  rw [if_neg (show ¬ (rnOf r who lv).bk = true from fun e => hi (.inl e))]
  exact ⟨(h.inner (fun e => hi (.inl e))).1, h1⟩
theorem nat_of {i : Int} (hi : ¬ (r.bk = true ∨ i < 0 ∨ 32 ≤ i)) : ((i.toNat : Nat) : Int) = i ∧ i.toNat < 32 := by
  have h1 : ¬ i < 0 := fun e => hi (.inr (.inl e))
  have h2 : ¬ 32 ≤ i := fun e => hi (.inr (.inr e))
  omega
theorem NodeIs.setPair (h : NodeIs base w ts bl nb r) (hT : Tks w p c ts lv) (ho : r.ow < 5) (hw : who < 5) (hbase : base ≤ w.heap.size) (i : Int) (q : Pr) :
    Calls Try.prog 18 #[at0 nb.b, pt (owO ts who), .int .i64 i, q.v] w (PPost base ts bl nb (setR r who lv i (.pr q)) w) := by
  obtain ⟨-, -, t1, -⟩ := hT.tv who hw
  obtain ⟨-, -, t2, -⟩ := hT.tv r.ow ho
  by_cases hi : r.bk = true ∨ i < 0 ∨ 32 ≤ i
  · obtain ⟨d, nn, xs, ks, hv, -, -⟩ := h.ndv
    refine (setPair_out base nb.b i q _ (pt (owO ts who)) r.bk d nn nb.pv nb.kv xs ks w hv hi).mono ?_
    rintro e w' ⟨rfl, hB⟩
    unfold setR; rw [if_pos hi]
    exact PPost.same h hB
  · obtain ⟨e1, e2⟩ := nat_of hi
    have hc := Inn.setPair base nb.b i.toNat _ _ _ _ _ nb.pv nb.kv w (h.inner (fun e => hi (.inl e))).2 t1 t2 e2 hbase q
    rw [e1] at hc
    refine hc.mono fun e w' hp => PPost.set hT ho hw h _ hi ?_
    rw [mapK_put]; exact hp
theorem NodeIs.setKid (h : NodeIs base w ts bl nb r) (hT : Tks w p c ts lv) (ho : r.ow < 5) (hw : who < 5) (hbase : base ≤ w.heap.size) (i : Int) (k kb : Nat) (hk : bl[k]? = some kb) :
    Calls Try.prog 19 #[at0 nb.b, pt (owO ts who), .int .i64 i, at0 kb] w (PPost base ts bl nb (setR r who lv i (.kd k)) w) := by
  obtain ⟨-, -, t1, -⟩ := hT.tv who hw
  obtain ⟨-, -, t2, -⟩ := hT.tv r.ow ho
  by_cases hi : r.bk = true ∨ i < 0 ∨ 32 ≤ i
  · obtain ⟨d, nn, xs, ks, hv, -, -⟩ := h.ndv
    refine (setKid_out base nb.b i kb _ (pt (owO ts who)) r.bk d nn nb.pv nb.kv xs ks w hv hi).mono ?_
    rintro e w' ⟨rfl, rfl⟩
    unfold setR; rw [if_pos hi]
    exact PPost.same h (Below.refl _ _)
  · obtain ⟨e1, e2⟩ := nat_of hi
    have hc := Inn.setKid base nb.b i.toNat _ _ _ _ _ nb.pv nb.kv w (h.inner (fun e => hi (.inl e))).2 t1 t2 e2 hbase kb
    rw [e1] at hc
    refine hc.mono fun e w' hp => PPost.set hT ho hw h _ hi ?_
    rw [mapK_put]
    simp only [hk, Option.getD_some]
    exact hp
theorem NodeIs.clear (h : NodeIs base w ts bl nb r) (hT : Tks w p c ts lv) (ho : r.ow < 5) (hw : who < 5) (hbase : base ≤ w.heap.size) (i : Int) :
    Calls Try.prog 21 #[at0 nb.b, pt (owO ts who), .int .i64 i] w (PPost base ts bl nb (setR r who lv i .no) w) := by
  obtain ⟨-, -, t1, -⟩ := hT.tv who hw
  obtain ⟨-, -, t2, -⟩ := hT.tv r.ow ho
  by_cases hi : r.bk = true ∨ i < 0 ∨ 32 ≤ i
  · obtain ⟨d, nn, xs, ks, hv, -, -⟩ := h.ndv
    refine (clear_out base nb.b i _ (pt (owO ts who)) r.bk d nn nb.pv nb.kv xs ks w hv hi).mono ?_
    rintro e w' ⟨rfl, rfl⟩
    unfold setR; rw [if_pos hi]
    exact PPost.same h (Below.refl _ _)
  · obtain ⟨e1, e2⟩ := nat_of hi
    have hc := Inn.clear base nb.b i.toNat _ _ _ _ _ nb.pv nb.kv w (h.inner (fun e => hi (.inl e))).2 t1 t2 e2 hbase
    rw [e1] at hc
    refine hc.mono fun e w' hp => PPost.set hT ho hw h _ hi ?_
    rw [mapK_put]; exact hp
theorem PPost.cha (hT : Tks w p c ts lv) (ho : r.ow < 5) (hw : who < 5) (h : NodeIs base w ts bl nb r) (L : List Pr) (hL : RisesL L) (hb : r.bk = true) {e : Ending}
    (hp : ChgPost base (ownB (owO ts r.ow) (owO ts who) (liveB who lv)) nb.b nb.pv nb.kv (newOw (owO ts who) (liveB who lv)) true 0 0 L [] w e w') : PPost base ts bl nb (chaR r who lv L) w e w' := by
  obtain ⟨b1, pv1, kv1, rfl, h1, hc⟩ := hp
  unfold chaR
  rw [if_pos hb]
  rw [hT.own r who ho hw] at hc
  rw [hT.newOw r who] at h1
  refine ⟨⟨b1, pv1, kv1⟩, rfl, ?_, hc⟩
  unfold NodeIs
  rw [if_pos (show (rnOf r who lv).bk = true from hb)]
  exact ⟨(h.bucket hb).1, h1, hL⟩
theorem NodeIs.put (h : NodeIs base w ts bl nb r) (hT : Tks w p c ts lv) (ho : r.ow < 5) (hw : who < 5) (hbase : base ≤ w.heap.size) (q : Pr) (hl : r.L.length ≤ 800) :
    Calls Try.prog 22 #[at0 nb.b, pt (owO ts who), q.v] w (PPost base ts bl nb (chaR r who lv (putK r.L q)) w) := by
  obtain ⟨-, -, t1, -⟩ := hT.tv who hw
  obtain ⟨-, -, t2, -⟩ := hT.tv r.ow ho
  by_cases hb : r.bk = true
  · obtain ⟨-, h1, h2⟩ := h.bucket hb
    exact (put_in base nb.b q _ _ _ _ 0 0 nb.pv nb.kv r.L [] w h1 t1 t2 h2 hl (by simp) hbase).mono fun e w' hp => PPost.cha hT ho hw h _ (put_rises q h2) hb hp
  · obtain ⟨d, nn, xs, ks, hv, -, -⟩ := h.ndv
    have e : r.bk = false := by simpa using hb
    rw [e] at hv
    refine (put_out base nb.b q _ (pt (owO ts who)) d nn nb.pv nb.kv xs ks w hv).mono ?_
    rintro e w' ⟨rfl, hB⟩
    unfold chaR; rw [if_neg hb]
    exact PPost.same h hB
theorem NodeIs.drop (h : NodeIs base w ts bl nb r) (hT : Tks w p c ts lv) (ho : r.ow < 5) (hw : who < 5) (hbase : base ≤ w.heap.size) (k : ByteArray) (hl : r.L.length ≤ 800) :
    Calls Try.prog 23 #[at0 nb.b, pt (owO ts who), .string k] w (PPost base ts bl nb (chaR r who lv (dropK r.L k)) w) := by
  obtain ⟨-, -, t1, -⟩ := hT.tv who hw
  obtain ⟨-, -, t2, -⟩ := hT.tv r.ow ho
  by_cases hb : r.bk = true
  · obtain ⟨-, h1, h2⟩ := h.bucket hb
    exact (drop_in base nb.b k _ _ _ _ 0 0 nb.pv nb.kv r.L [] w h1 t1 t2 h2 hl (by simp) hbase).mono fun e w' hp => PPost.cha hT ho hw h _ (drop_rises _ k h2) hb hp
  · obtain ⟨d, nn, xs, ks, hv, -, -⟩ := h.ndv
    have e : r.bk = false := by simpa using hb
    rw [e] at hv
    refine (drop_out base nb.b k _ (pt (owO ts who)) d nn nb.pv nb.kv xs ks w hv).mono ?_
    rintro e w' ⟨rfl, rfl⟩
    unfold chaR; rw [if_neg hb]
    exact PPost.same h (Below.refl _ _)
/-- the reference's Set -/
theorem RefA.set (h : RefA base w xb Nv Lv ns lv) {n : Nat} (hr : ns[n]? = some rv) (hw : who < 5) (hl : lv.length = 5) (hn : ns.length ≤ 900) (hL : rv.1.L.length ≤ 900) (hbase : base ≤ w.heap.size) (i : Int) (x : Sl) :
    Calls Try.prog 48 #[at0 xb, .int .i64 n, .int .i64 who, .int .i64 i, .int .i64 x.isN, .agg #[.string x.prN.1, .string x.prN.2], .int .i64 (x.kdN : Nat)] w (RPost base xb n Lv ns lv (setR rv.1 who lv i x) w) := by
  by_cases hi : rv.1.bk = true ∨ i < 0 ∨ 32 ≤ i
  · refine (refSet_out base xb n who i x.isN (x.kdN : Nat) x.prN.1 x.prN.2 Nv Lv ns lv rv w h hr hi hn).mono ?_
    rintro e w' ⟨rfl, hB⟩
    unfold setR; rw [if_pos hi]
    exact RPost.same h hr hB hbase
  · obtain ⟨e1, e2⟩ := nat_of hi
    have hb : rv.1.bk = false := by simpa using fun e => hi (.inl e)
    have hc := refSet_in base xb n who i.toNat x Nv Lv ns lv rv w h hr (by omega) e2 hb hn (by omega) hL hbase
    rw [e1] at hc
    refine hc.mono ?_
    rintro e w' ⟨Nv', vl, rfl, h1, hK⟩
    unfold setR; rw [if_neg hi]
    rw [nsOf_set] at h1
    exact ⟨Nv', vl, rfl, h1, hK⟩
theorem RefA.chaPut (h : RefA base w xb Nv Lv ns lv) {n : Nat} (hr : ns[n]? = some rv) (hw : who < 5) (hl : lv.length = 5) (hn : ns.length ≤ 900) (hL : rv.1.L.length ≤ 900) (hbase : base ≤ w.heap.size) (q : Pr) (hz : Sized rv.1.L) (hq : q.1.size ≤ maxLen) :
    Calls Try.prog 49 #[at0 xb, .int .i64 n, .int .i64 who, .bool true, .agg #[.string q.1, .string q.2]] w (RPost base xb n Lv ns lv (chaR rv.1 who lv (putK rv.1.L q)) w) := by
  by_cases hb : rv.1.bk = true
  · refine (refCha_put base xb n who q.1 q.2 Nv Lv ns lv rv w h hr (by omega) hb hn (by omega) hL hz hq hbase).mono ?_
    rintro e w' ⟨Nv', vl, vl', rfl, h1, hK⟩
    unfold chaR; rw [if_pos hb]
    rw [nsOf_set] at h1
    exact ⟨Nv', vl', rfl, h1, hK⟩
  · refine (refCha_out base xb n who true q.1 q.2 Nv Lv ns lv rv w h hr (by simpa using hb) hn).mono ?_
    rintro e w' ⟨rfl, hB⟩
    unfold chaR; rw [if_neg hb]
    exact RPost.same h hr hB hbase
theorem RefA.chaDrop (h : RefA base w xb Nv Lv ns lv) {n : Nat} (hr : ns[n]? = some rv) (hw : who < 5) (hl : lv.length = 5) (hn : ns.length ≤ 900) (hL : rv.1.L.length ≤ 900) (hbase : base ≤ w.heap.size) (q : Pr) :
    Calls Try.prog 49 #[at0 xb, .int .i64 n, .int .i64 who, .bool false, .agg #[.string q.1, .string q.2]] w (RPost base xb n Lv ns lv (chaR rv.1 who lv (dropK rv.1.L q.1)) w) := by
  by_cases hb : rv.1.bk = true
  · refine (refCha_drop base xb n who q.1 q.2 Nv Lv ns lv rv w h hr (by omega) hb hn (by omega) hL hbase).mono ?_
    rintro e w' ⟨Nv', vl, vl', rfl, h1, hK⟩
    unfold chaR; rw [if_pos hb]
    rw [nsOf_set] at h1
    exact ⟨Nv', vl', rfl, h1, hK⟩
  · refine (refCha_out base xb n who false q.1 q.2 Nv Lv ns lv rv w h hr (by simpa using hb) hn).mono ?_
    rintro e w' ⟨rfl, hB⟩
    unfold chaR; rw [if_neg hb]
    exact RPost.same h hr hB hbase
end
/-- behind both: what the law's next step asks -/
def Both (base : Nat) (p c xb wb : Nat) (Lv lw tw : Value) (ts : List (Option Nat)) (lv : List Bool) (bs : List NB) (ns : List (RN × Value)) (m n : Nat) (own : Bool) (b' : Nat) (w2 : World) : Prop :=
  ∃ nb' r' vl' Nv', nb'.b = b' ∧ Cr base w2 p c xb Nv' Lv ts lv (chgL bs own n nb') (chgL ns own n (r', vl')) ∧ Li base w2 wb p xb lw tw ts (bs.map (·.b)) (chgL bs own n nb') ∧ Few (m + 1) (chgL ns own n (r', vl')) ∧
    (own = true → (bs.map (·.b))[n]? = some b') ∧ (own = false → ∀ y ∈ bs.map (·.b), y ≠ b')
theorem Both.of {base : Nat} {w w1 w2 : World} {wb p c xb : Nat} {lw tw Nv Lv : Value} {ts : List (Option Nat)} {lv : List Bool} {bs : List NB} {ns : List (RN × Value)} {m n : Nat} {nb nb' : NB} {rv : RN × Value} {y : Bool × RN} {Nv' vl' : Value}
    (h : Cr base w p c xb Nv Lv ts lv bs ns) (hl : Li base w wb p xb lw tw ts (bs.map (·.b)) bs) (hf : Few m ns) (hn : bs[n]? = some nb) (hr : ns[n]? = some rv)
    (hI : NodeIs base w1 ts (bs.map (·.b)) nb' y.2) (hc : Chg y.1 nb.b nb.pv nb.kv nb'.b nb'.pv nb'.kv w w1)
    (hA : RefA base w2 xb Nv' Lv (chgL ns y.1 n (y.2, vl')) lv) (hK : KeepA base w1 w2)
    (hk : ∀ i k, y.2.S i = .kd k → k < ns.length) (ho : y.2.ow < 5) (hz : Sized y.2.L) (hx : y.2.L.length ≤ m + 1) : Both base p c xb wb Lv lw tw ts lv bs ns m n y.1 nb'.b w2 := by
  refine ⟨nb', y.2, vl', Nv', rfl, h.change hn hr hc hI hA hK hk ho hz, hl.change hn (h.nodes n nb rv hn hr) hc hK, hf.change _ n _ hx, fun e => ?_, fun e z hz => ?_⟩
  · rw [List.getElem?_map, hn, hc.place e]; rfl
  · obtain ⟨m', hm, rfl⟩ := List.mem_map.1 hz
    obtain ⟨j, hj⟩ := List.getElem?_of_mem hm
    have hj' := (List.getElem?_eq_some_iff.1 hj).1
    rw [h.len] at hj'
    have := (h.nodes j m' _ hj (List.getElem?_eq_getElem hj')).footLt m'.b (by simp [NB.foot, foot])
    have := hc.new e
    omega
theorem setR_facts {r : RN} {who : Nat} {lv : List Bool} {i : Int} {x : Sl} {N : Nat} (ho : r.ow < 5) (hw : who < 5) (hk : ∀ i k, r.S i = .kd k → k < N) (hx : ∀ k, x = .kd k → k < N) :
    (∀ (j : Nat) (k : Nat), (setR r who lv i x).2.S j = .kd k → k < N) ∧ (setR r who lv i x).2.ow < 5 ∧ (setR r who lv i x).2.L = r.L := by
  unfold setR
  split
  · exact ⟨hk, ho, rfl⟩
  · refine ⟨fun j k e => ?_, ?_, rfl⟩
    · simp only [rnOf, Slots.put] at e
      split at e
      · exact hx k e
      · exact hk j k e
    · simp only [rnOf]
      split <;> omega
theorem chaR_facts {r : RN} {who : Nat} {lv : List Bool} {L : List Pr} {N : Nat} (ho : r.ow < 5) (hw : who < 5) (hk : ∀ i k, r.S i = .kd k → k < N) :
    (∀ i k, (chaR r who lv L).2.S i = .kd k → k < N) ∧ (chaR r who lv L).2.ow < 5 ∧ ((chaR r who lv L).2.L = r.L ∨ (chaR r who lv L).2.L = L) := by
  unfold chaR
  split
  · refine ⟨hk, ?_, .inr rfl⟩
    simp only [rnOf]
    split <;> omega
  · exact ⟨hk, ho, .inl rfl⟩
end Go.Proofs.Ytgldgdpgbfejmaa
/- The lists behind a new node. -/
namespace Go.Proofs.Ytgldgdpgbfejmaa
open Go.RowKit Go.Lib Go.Conc
set_option linter.unusedVariables false
set_option linter.unusedSimpArgs false
section
variable {base : Nat} {w w' w1 w2 : World} {wb p c xb : Nat} {lw tw Nv Lv Nv' v' : Value} {ts : List (Option Nat)} {lv : List Bool} {bs : List NB} {ns : List (RN × Value)} {bl : List Nat}
theorem Cr.keep (h : Cr base w p c xb Nv Lv ts lv bs ns) {X : List Nat} (hk : Keep X w w') (h1 : ∀ x ∈ X, ∀ n ∈ bs, x ∉ n.foot) (h2 : ∀ x ∈ X, ∃ cs t, w.heap[x]? = some (.cells cs t (0, 0)) ∧ t ≠ 112 ∧ t ≠ 110 ∧ t ≠ 89 ∧ t ≠ 85 ∧ t ≠ 4 ∧ t ≠ 81) : Cr base w' p c xb Nv Lv ts lv bs ns := by
  refine ⟨h.ge, h.tge, h.tks.keep hk fun x hx => ?_, h.ref.keepT hk fun x hx cs t e => ?_, h.len, fun j n r e1 e2 => (h.nodes j n r e1 e2).keep hk fun x hx hm => h1 x hm n (List.mem_of_getElem? e1) hx, h.kids, h.ows, h.disj, h.sized⟩
  · obtain ⟨cs, t, e, a1, a2, -⟩ := h2 x hx
    exact ⟨cs, t, e, a1, a2⟩
  · obtain ⟨cs', t', e', -, -, a⟩ := h2 x hx
    rw [e] at e'; cases e'; exact a
theorem Cr.footLt (h : Cr base w p c xb Nv Lv ts lv bs ns) : ∀ n ∈ bs, ∀ x ∈ n.foot, x < w.heap.size := by
  intro n hn
  obtain ⟨j, hj⟩ := List.getElem?_of_mem hn
  have hj' := (List.getElem?_eq_some_iff.1 hj).1
  rw [h.len] at hj'
  exact (h.nodes j n _ hj (List.getElem?_eq_getElem hj')).footLt
theorem Cr.types (h : Cr base w p c xb Nv Lv ts lv bs ns) : ∀ n ∈ bs, ∀ x ∈ n.foot, ∃ cs t, w.heap[x]? = some (.cells cs t (0, 0)) ∧ (t = 98 ∨ t = 27 ∨ t = 39) := by
  intro n hn
  obtain ⟨j, hj⟩ := List.getElem?_of_mem hn
  have hj' := (List.getElem?_eq_some_iff.1 hj).1
  rw [h.len] at hj'
  exact (h.nodes j n _ hj (List.getElem?_eq_getElem hj')).types
theorem tail_app (hC : Cr base w p c xb Nv Lv ts lv bs ns) (hL : Li base w wb p xb lw tw ts bl bs) (hB : Below w.heap.size w w1) (hg : w1.grownBy w2 lw.ownBlock) (b' : Nat) (ho : w2.ownsRow base 39 1 v' (bl.length + 1) (kcs bl ++ [at0 b']))
    (hat : v'.ownBlock = lw.ownBlock ∨ v'.ownBlock = some w1.heap.size) (hbase : base ≤ w.heap.size) :
    Cr base (w2.setCell ⟨wb, 0, none⟩ v') p c xb Nv Lv ts lv bs ns ∧ Li base (w2.setCell ⟨wb, 0, none⟩ v') wb p xb v' tw ts (bl ++ [b']) bs ∧ Below base w (w2.setCell ⟨wb, 0, none⟩ v') := by
  have hC1 := hC.below hB
  have hL1 := hL.below hB
  have k1 : Keep lw.ownBlock.toList w1 w2 := ⟨⟨hg.os, hg.tape, hg.output, hg.size, fun i hi => by omega⟩, fun i hi hx => hg.block i hi fun e => hx (by rw [← e]; simp)⟩
  have row : ∀ x ∈ lw.ownBlock.toList, ∃ cs, w1.heap[x]? = some (.cells cs 39 (0, 0)) := fun x hx => own_cells hL1.l x (by simpa using hx)
  have hC2 : Cr base w2 p c xb Nv Lv ts lv bs ns := hC1.keep k1 (fun x hx n hn => hL1.lfoot n hn x (by simpa using hx)) fun x hx => by
    obtain ⟨cs, e⟩ := row x hx
    exact ⟨cs, 39, e, by decide⟩
  have hb2 : Blk w2 wb 36 #[lw, tw, at0 p, at0 xb] := hL1.blk.keep k1 fun hm => by
    obtain ⟨cs, e⟩ := row wb hm
    have := hL1.blk
    unfold Blk at this; rw [this] at e; cases e
  have ht2 : w2.ownsRow base 64 1 tw 5 (ts.map pt) := own_keep hL1.t k1 fun x hx e => by
    obtain ⟨cs, e1⟩ := row x hx
    obtain ⟨cs', e2⟩ := own_cells hL1.t x e
    rw [e1] at e2; cases e2
  have k2 : Keep [wb] w2 (w2.setCell ⟨wb, 0, none⟩ v') := ⟨(Below.refl _ _).setCell (Nat.zero_le _) _, fun i hi hx => Below.heap_setCell _ _ _ _ (by simpa using hx)⟩
  have hf : ∀ n ∈ bs, wb ∉ n.foot := fun n hn hx => by
    obtain ⟨cs, t, e, ht⟩ := hC2.types n hn wb hx
    unfold Blk at hb2; rw [hb2] at e; cases e; revert ht; decide
  refine ⟨hC2.keep k2 (fun x hx n hn => by rw [List.mem_singleton.1 hx]; exact hf n hn) (fun x hx => by rw [List.mem_singleton.1 hx]; exact ⟨_, 36, hb2, by decide⟩), ⟨hb2.set_ 0 v', hL.ge, ?_, own_keep ht2 k2 fun x hx e => ?_, fun n hn x hx hf' => ?_⟩, ?_⟩
  · have h3 : OwnK base w2 v' (bl ++ [b']) := by
      unfold OwnK
      rw [show kcs (bl ++ [b']) = kcs bl ++ [at0 b'] by simp [kcs], List.length_append]
      exact ho
    refine own_keep h3 k2 fun x hx e => ?_
    rw [List.mem_singleton.1 hx] at e
    obtain ⟨cs, e2⟩ := own_cells h3 wb e
    unfold Blk at hb2; rw [hb2] at e2; cases e2
  · rw [List.mem_singleton.1 hx] at e
    obtain ⟨cs, e2⟩ := own_cells ht2 wb e
    unfold Blk at hb2; rw [hb2] at e2; cases e2
  · rcases hat with e | e
    · rw [e] at hx
      exact hL.lfoot n hn x hx hf'
    · rw [e] at hx
      have h1 := hC.footLt n hn x hf'
      have h2 := hB.size
      have h3 := Option.some.inj hx
      omega
  · refine (hB.mono hbase).trans (Below.trans (B := base) ⟨hg.os, hg.tape, hg.output, hg.size, fun i hi => ?_⟩ ((Below.refl _ _).setCell hL.ge _))
    have := hB.size
    exact hg.block i (by omega) fun e => by
      have := own_ge hL.l i e.symm
      omega
end
/-- behind an act -/
def DoPost (base p c xb wb : Nat) (tw : Value) (ts : List (Option Nat)) (m : Nat) (w : World) (e : Ending) (w' : World) : Prop :=
  e = .returned (.bool true) ∧ ∃ lw' Nv' Lv' lv' bs' ns', Cr base w' p c xb Nv' Lv' ts lv' bs' ns' ∧ Li base w' wb p xb lw' tw ts (bs'.map (·.b)) bs' ∧ Few (m + 1) ns' ∧ Below base w w'
end Go.Proofs.Ytgldgdpgbfejmaa
