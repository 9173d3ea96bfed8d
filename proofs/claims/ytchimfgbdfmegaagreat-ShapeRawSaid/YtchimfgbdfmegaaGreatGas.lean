/- Changes by a dead token or a live one; tries whose owners a token is not; the end of a token. -/
import Derived.Test.YtchimfgbdfmegaaGreatGar
import Derived.Test.YtchimfgbdfmegaaGreatGag
import Derived.Test.YtchimfgbdfmegaaGreatGap
import Derived.Test.YtchimfgbdfmegaaGreatGaf
import Derived.Test.YtchimfgbdfmegaaGreatGam
namespace Go.Proofs.YtchimfgbdfmegaaGreat
open Go.RowKit Go.Lib
set_option linter.unusedVariables false
set_option maxRecDepth 100000
set_option linter.unusedSimpArgs false
set_option maxRecDepth 100000
attribute [local irreducible] cnt
theorem Trie.dead {H : ByteArray → Nat} {X : Nat → Prop} {base : Nat} {w : World} {tk : Option Nat} (tk' : Option Nat) : ∀ (n l b : Nat) (ps : List Pr) (F : Nat → Prop), Trie H X tk false base w n l b ps F → Trie H X tk' false base w n l b ps (fun _ => False)
  | 0, l, b, ps, F, h => by
    obtain ⟨ow, pv, kv, lo, hB, hv, hN⟩ := h
    have hn := hN.no (by simp [ownB])
    exact ⟨ow, pv, kv, lo, hB, hv, fun e => by simp [ownB] at e, fun _ => ⟨hn.1, fun _ h => h, fun _ _ _ h => h⟩⟩
  | n + 1, l, b, ps, F, h => by
    obtain ⟨ow, pv, kv, lo, S, Fs, hI, hv, hN, hS⟩ := h
    have hn := hN.no (by simp [ownB])
    refine ⟨ow, pv, kv, lo, S, fun _ _ => False, hI, hv, ⟨fun e => by simp [ownB] at e, fun _ => ⟨hn.1, fun _ h => h, fun _ _ _ h => h⟩⟩, fun c hc => ?_⟩
    have := hS c hc
    unfold SlotIs at this ⊢
    cases hs : S c with
    | no => rw [hs] at this; exact ⟨this.1, fun _ h => h⟩
    | pr p => rw [hs] at this; exact ⟨this.1, fun _ h => h⟩
    | kd k => rw [hs] at this; exact ⟨this.1, Trie.dead tk' n (l + 1) k _ _ this.2⟩
/-- a token that none of the trie's nodes has: by it, too, it is a trie, with nothing of its own -/
theorem Trie.alive {H : ByteArray → Nat} {X0 X : Nat → Prop} {base : Nat} {w : World} {T : Nat} (hT : X0 T) (hX : ∀ x, X x → X0 x ∨ w.heap.size ≤ x) : ∀ (n l b : Nat) (ps : List Pr) (F : Nat → Prop), Trie H X0 none false base w n l b ps F → Trie H X (some T) true base w n l b ps (fun _ => False)
  | 0, l, b, ps, F, h => by
    obtain ⟨ow, pv, kv, lo, hB, hv, hN⟩ := h
    have ho : ownB ow (some T) true = false := by
      unfold ownB
      simp only [Bool.true_and, decide_eq_false_iff_not]
      exact fun e => hv.no T e hT
    have hn := hN.no (by simp [ownB])
    have h1 : ∀ t, ow = some t → ¬ X t := fun t e hx => by
      subst e
      rcases hX t hx with h | h
      · exact hv.no t rfl h
      · have := hv.tv.old; omega
    have h2 : ∀ x ∈ foot b pv kv, ¬ X x := fun x hx h => by
      rcases hX x h with h | h
      · exact hn.1 x hx h
      · have := hB.1.footLt x hx; omega
    exact ⟨ow, pv, kv, lo, hB, ⟨hv.tv, h1⟩, fun e => (by rw [ho] at e; cases e), fun _ => ⟨h2, fun _ h => h, fun _ _ _ h => h⟩⟩
  | n + 1, l, b, ps, F, h => by
    obtain ⟨ow, pv, kv, lo, S, Fs, hI, hv, hN, hS⟩ := h
    have ho : ownB ow (some T) true = false := by
      unfold ownB
      simp only [Bool.true_and, decide_eq_false_iff_not]
      exact fun e => hv.no T e hT
    have hn := hN.no (by simp [ownB])
    have h1 : ∀ t, ow = some t → ¬ X t := fun t e hx => by
      subst e
      rcases hX t hx with h | h
      · exact hv.no t rfl h
      · have := hv.tv.old; omega
    have h2 : ∀ x ∈ foot b pv kv, ¬ X x := fun x hx h => by
      rcases hX x h with h | h
      · exact hn.1 x hx h
      · have := hI.footLt x hx; omega
    refine ⟨ow, pv, kv, lo, S, fun _ _ => False, hI, ⟨hv.tv, h1⟩, ⟨fun e => (by rw [ho] at e; cases e), fun _ => ⟨h2, fun _ h => h, fun _ _ _ h => h⟩⟩, fun c hc => ?_⟩
    have := hS c hc
    unfold SlotIs at this ⊢
    cases hs : S c with
    | no => rw [hs] at this; exact ⟨this.1, fun _ h => h⟩
    | pr p => rw [hs] at this; exact ⟨this.1, fun _ h => h⟩
    | kd k => rw [hs] at this; exact ⟨this.1, Trie.alive hT hX n (l + 1) k _ _ this.2⟩
/-- without a token it keeps away from what is none of the token's own -/
theorem Trie.leave {H : ByteArray → Nat} {X X' : Nat → Prop} {tk : Option Nat} {lv : Bool} {base : Nat} {w : World} (hX : ∀ x, X' x → X x) : ∀ (n l b : Nat) (ps : List Pr) (F : Nat → Prop), Trie H X tk lv base w n l b ps F → (∀ x, F x → ¬ X' x) → Trie H X' none false base w n l b ps (fun _ => False)
  | 0, l, b, ps, F, h, hF => by
    obtain ⟨ow, pv, kv, lo, hB, hv, hN⟩ := h
    refine ⟨ow, pv, kv, lo, hB, ⟨hv.tv, fun t e hx => hv.no t e (hX t hx)⟩, fun e => by simp [ownB] at e, fun _ => ⟨fun x hx h => ?_, fun _ h => h, fun _ _ _ h => h⟩⟩
    cases ho : ownB ow tk lv with
    | false => rw [ho] at hN; exact (hN.no rfl).1 x hx (hX x h)
    | true => rw [ho] at hN; exact hF x (((hN.yes rfl).2.1 x).2 (.inl hx)) h
  | n + 1, l, b, ps, F, h, hF => by
    obtain ⟨ow, pv, kv, lo, S, Fs, hI, hv, hN, hS⟩ := h
    refine ⟨ow, pv, kv, lo, S, fun _ _ => False, hI, ⟨hv.tv, fun t e hx => hv.no t e (hX t hx)⟩, ⟨fun e => by simp [ownB] at e, fun _ => ⟨fun x hx h => ?_, fun _ h => h, fun _ _ _ h => h⟩⟩, fun c hc => ?_⟩
    · cases ho : ownB ow tk lv with
      | false => rw [ho] at hN; exact (hN.no rfl).1 x hx (hX x h)
      | true => rw [ho] at hN; exact hF x (((hN.yes rfl).2.1 x).2 (.inl hx)) h
    · have hFc : ∀ x, Fs c x → ¬ X' x := fun x hx => by
        cases ho : ownB ow tk lv with
        | false => rw [ho] at hN; exact absurd hx ((hN.no rfl).2.2 c x hc)
        | true => rw [ho] at hN; exact hF x (((hN.yes rfl).2.1 x).2 (.inr ⟨c, hc, hx⟩))
      have := hS c hc
      unfold SlotIs at this ⊢
      cases hs : S c with
      | no => rw [hs] at this; exact ⟨this.1, fun _ h => h⟩
      | pr p => rw [hs] at this; exact ⟨this.1, fun _ h => h⟩
      | kd k => rw [hs] at this; exact ⟨this.1, Trie.leave hX n (l + 1) k _ _ this.2 hFc⟩
/-- the trie of no pairs keeps away from all that stands -/
theorem empty_X (k0 k1 m : Int) {base : Nat} {w : World} {X : Nat → Prop} (hb : base ≤ w.heap.size) (hX : ∀ x, X x → x < w.heap.size) : Calls Tryz.prog 27 #[] w (RetB fun b w' => TX X k0 k1 m base w' b [] ∧ Below w.heap.size w w') := by
  go_enter Tryz.func27, Tryz.ntmps27
  go_wp2_with fail
  refine (Inn.new w).mono ?_
  rintro e w1 ⟨b, rfl, -, hI, hB⟩
  unfold at0
  go_wp2_with fail
  go_ret
  exact ⟨b, rfl, ⟨none, _, _, false, _, fun _ _ => False, hI.base hb, ⟨TV.nil _, fun t e => by simp at e⟩, ⟨fun e => by simp [ownB] at e, fun _ => ⟨fun x hx h => by have := hX x h; have := hI.footGe x hx; omega, fun _ h => h, fun _ _ _ h => h⟩⟩, fun c hc => ⟨rfl, fun _ h => h⟩⟩, hB⟩
/-- of which kinds a token's own blocks are -/
theorem Trie.types {H : ByteArray → Nat} {X : Nat → Prop} {tk : Option Nat} {lv : Bool} {base : Nat} {w : World} : ∀ (n l b : Nat) (ps : List Pr) (F : Nat → Prop), Trie H X tk lv base w n l b ps F → ∀ x, F x → ∀ t cs, Blk w x t cs → t = 100 ∨ t = 52 ∨ t = 29
  | 0, l, b, ps, F, h => by
    obtain ⟨ow, pv, kv, lo, hB, hv, hN⟩ := h
    intro x hx t cs hb
    by_cases h1 : t = 100
    · exact .inl h1
    by_cases h2 : t = 52
    · exact .inr (.inl h2)
    by_cases h3 : t = 29
    · exact .inr (.inr h3)
    exfalso
    cases ho : ownB ow tk lv with
    | false => rw [ho] at hN; exact absurd hx ((hN.no rfl).2.1 x)
    | true =>
      rw [ho] at hN
      rcases ((hN.yes rfl).2.1 x).1 hx with hx | ⟨c, _, hx⟩
      · exact hB.1.noTy hb h1 h2 h3 x hx rfl
      · exact hx.elim
  | n + 1, l, b, ps, F, h => by
    obtain ⟨ow, pv, kv, lo, S, Fs, hI, hv, hN, hS⟩ := h
    intro x hx t cs hb
    cases ho : ownB ow tk lv with
    | false => rw [ho] at hN; exact absurd hx ((hN.no rfl).2.1 x)
    | true =>
      rw [ho] at hN
      rcases ((hN.yes rfl).2.1 x).1 hx with hx | ⟨c, hc, hx⟩
      · by_cases h1 : t = 100
        · exact .inl h1
        by_cases h2 : t = 52
        · exact .inr (.inl h2)
        by_cases h3 : t = 29
        · exact .inr (.inr h3)
        obtain ⟨d, nn, hN', -, -⟩ := hI
        exact absurd rfl (hN'.noTy hb h1 h2 h3 x hx)
      · have := hS c hc
        unfold SlotIs at this
        cases hs : S c with
        | no => rw [hs] at this; exact absurd hx (this.2 x)
        | pr p => rw [hs] at this; exact absurd hx (this.2 x)
        | kd k => rw [hs] at this; exact Trie.types n (l + 1) k _ _ this.2 x hx t cs hb
section
variable {X : Nat → Prop} {k0 k1 m : Int} {base : Nat} {w w' : World} {b : Nat} {ps : List Pr}
theorem cx_D {tk : Option Nat} (hv : TV w tk false) (hb : base ≤ w.heap.size) (hX : ∀ x, X x → x < w.heap.size) : Cx X tk false base w := ⟨hv, fun h => by simp at h, fun _ x hx h => by have := hX x h; omega, hb, fun h => by simp at h⟩
theorem ChPost.txD {tk : Option Nat} {b1 : Nat} (h : ChPost (hz k0 k1 m) X tk false base 13 0 ps (fun _ => False) w b1 w') : TX X k0 k1 m base w' b1 ps ∧ Below w.heap.size w w' := by
  obtain ⟨F', hT, hK, -, -⟩ := h
  exact ⟨Trie.dead none _ _ _ _ _ hT, hK.below fun _ h => h⟩
theorem put_D (tk : Option Nat) (T : Option Addr) (hpt : pt tk = .pointer T) (hv : TV w tk false) (p : Pr) (h0 : U64 k0) (h1 : U64 k1) (hs : p.1.size ≤ 1000) (hb : base ≤ w.heap.size) (hX : ∀ x, X x → x < w.heap.size) (h : TX X k0 k1 m base w b ps) (hr : RisesL ps) (hn : ps.length ≤ 700) (hz1 : ∀ x ∈ ps, x.1.size ≤ 1000) :
    Calls Tryz.prog 28 #[.agg #[.int .u64 k0, .int .u64 k1, .int .u64 m], .pointer T, .pointer (some ⟨b, 0, none⟩), .agg #[.string p.1, .string p.2]] w fun e w' => ∃ (b' : Nat) (g : Bool), e = .returned (.tuple #[.pointer (some ⟨b', 0, none⟩), .bool g]) ∧ TX X k0 k1 m base w' b' (putK ps p) ∧ Below w.heap.size w w' := by
  have hd := Trie.dead tk _ _ _ _ _ h
  cases hg : getK ps p.1 with
  | none =>
    refine (Put_none k0 k1 m _ tk false base T p.1 p.2 b ps _ w hpt h0 h1 hs (cx_D hv hb hX) hd hr hn hz1 hg).mono ?_
    rintro e w1 ⟨b1, rfl, hP⟩
    exact ⟨b1, _, rfl, hP.txD.1, hP.txD.2⟩
  | some v =>
    by_cases hv' : v = p.2
    · subst hv'
      refine (Put_same k0 k1 m _ tk false base T p.1 p.2 b ps _ w hpt h0 h1 hs hd hn hg).mono ?_
      rintro e w1 ⟨rfl, hB⟩
      exact ⟨b, _, rfl, by rw [put_same hr hg]; exact h.below hB, hB⟩
    · refine (Put_other k0 k1 m _ tk false base T p.1 p.2 b ps _ w hpt h0 h1 hs (cx_D hv hb hX) hd hr hn hz1 v hg hv').mono ?_
      rintro e w1 ⟨b1, rfl, hP⟩
      exact ⟨b1, _, rfl, hP.txD.1, hP.txD.2⟩
theorem ChPost.stay {tk : Option Nat} {lv : Bool} {F : Nat → Prop} (h : Trie (hz k0 k1 m) X tk lv base w 13 0 b ps F) (hv : TV w tk lv) (hB : Below w.heap.size w w') : ChPost (hz k0 k1 m) X tk lv base 13 0 ps F w b w' :=
  ⟨F, h.below hB, KeepF.ofBelow hB, hv.below hB, fun y hy => .inl hy⟩
theorem put_L (T : Nat) (p : Pr) {F : Nat → Prop} (h0 : U64 k0) (h1 : U64 k1) (hs : p.1.size ≤ 1000) (hcx : Cx X (some T) true base w) (h : Trie (hz k0 k1 m) X (some T) true base w 13 0 b ps F) (hr : RisesL ps) (hn : ps.length ≤ 700) (hz1 : ∀ x ∈ ps, x.1.size ≤ 1000) :
    Calls Tryz.prog 28 #[.agg #[.int .u64 k0, .int .u64 k1, .int .u64 m], .pointer (some ⟨T, 0, none⟩), .pointer (some ⟨b, 0, none⟩), .agg #[.string p.1, .string p.2]] w fun e w' => ∃ (b' : Nat) (g : Bool), e = .returned (.tuple #[.pointer (some ⟨b', 0, none⟩), .bool g]) ∧ ChPost (hz k0 k1 m) X (some T) true base 13 0 (putK ps p) F w b' w' := by
  cases hg : getK ps p.1 with
  | none =>
    refine (Put_none k0 k1 m _ (some T) true base (some ⟨T, 0, none⟩) p.1 p.2 b ps _ w rfl h0 h1 hs hcx h hr hn hz1 hg).mono ?_
    rintro e w1 ⟨b1, rfl, hP⟩
    exact ⟨b1, _, rfl, hP⟩
  | some v =>
    by_cases hv' : v = p.2
    · subst hv'
      refine (Put_same k0 k1 m _ (some T) true base (some ⟨T, 0, none⟩) p.1 p.2 b ps _ w rfl h0 h1 hs h hn hg).mono ?_
      rintro e w1 ⟨rfl, hB⟩
      exact ⟨b, _, rfl, by rw [put_same hr hg]; exact .stay h hcx.tv hB⟩
    · refine (Put_other k0 k1 m _ (some T) true base (some ⟨T, 0, none⟩) p.1 p.2 b ps _ w rfl h0 h1 hs hcx h hr hn hz1 v hg hv').mono ?_
      rintro e w1 ⟨b1, rfl, hP⟩
      exact ⟨b1, _, rfl, hP⟩
/-- G, of X, is changed -/
theorem TX.keepG {G : Nat → Prop} (h : TX X k0 k1 m base w b ps) (hk : KeepF G w w') (hG : ∀ x, G x → X x) (h92 : ∀ x, G x → ∀ cs, ¬ Blk w x 107 cs) : TX X k0 k1 m base w' b ps :=
  Trie.keep (fun t l hv => hv.keepF hk h92) 13 0 b ps _ G h hk (fun _ _ h => h) hG
end
theorem tv_ended {w w' : World} {p c k t i : Nat} {out : Int} {q : List Nat} {l0 : Bool} (hk : Keep [p, c, t] w w') (hP : Pool w p c k out q) (hT : Tok w t p i l0) (hT' : Tok w' t p i false) {ow : Option Nat} {lo : Bool} (h : TV w ow lo) : ∃ lo', TV w' ow lo' := by
  rcases h with h | ⟨t', p', id, e, h⟩
  · exact ⟨lo, .inl h⟩
  · by_cases ht : t' = t
    · subst ht
      exact ⟨false, .inr ⟨t', p, i, e, hT'⟩⟩
    · have hne := h.ne hP
      exact ⟨lo, .inr ⟨t', p', id, e, h.keep hk (by simp; exact ⟨hne.1, hne.2, ht⟩)⟩⟩
/-- the token's end -/
theorem Trie.ended {H : ByteArray → Nat} {X : Nat → Prop} {base : Nat} {w w' : World} {p c k t i : Nat} {out : Int} {q : List Nat} {l0 : Bool} (hk : Keep [p, c, t] w w') (hP : Pool w p c k out q) (hT : Tok w t p i l0) (hT' : Tok w' t p i false) : ∀ (n l b : Nat) (ps : List Pr) (F : Nat → Prop), Trie H X none false base w n l b ps F → Trie H X none false base w' n l b ps F
  | 0, l, b, ps, F, h => by
    obtain ⟨ow, pv, kv, lo, hB, hv, hN⟩ := h
    have hft : ∀ x ∈ foot b pv kv, x ∉ [p, c, t] := by
      intro x hx hm
      obtain ⟨hbp, s, r, hc⟩ := hP
      simp only [List.mem_cons, List.not_mem_nil, or_false] at hm
      rcases hm with rfl | rfl | rfl
      · exact hB.1.noTy hbp (by decide) (by decide) (by decide) x hx rfl
      · simp only [foot, List.mem_cons, List.mem_append, Option.mem_toList] at hx
        rcases hx with rfl | e | e
        · have := hB.1.blk; unfold Blk at this; rw [hc] at this; simp at this
        · obtain ⟨cur, h'⟩ := own_cells hB.1.prs x e; rw [hc] at h'; simp at h'
        · obtain ⟨cur, h'⟩ := own_cells hB.1.kds x e; rw [hc] at h'; simp at h'
      · exact hB.1.noTy hT (by decide) (by decide) (by decide) x hx rfl
    obtain ⟨lo', hv'⟩ := tv_ended hk hP hT hT' hv.tv
    exact ⟨ow, pv, kv, lo', ⟨hB.1.keep hk hft, hB.2⟩, ⟨hv', hv.no⟩, hN⟩
  | n + 1, l, b, ps, F, h => by
    obtain ⟨ow, pv, kv, lo, S, Fs, hI, hv, hN, hS⟩ := h
    obtain ⟨lo', hv'⟩ := tv_ended hk hP hT hT' hv.tv
    refine ⟨ow, pv, kv, lo', S, Fs, hI.keepTok hk hP hT, ⟨hv', hv.no⟩, hN, fun c' hc => ?_⟩
    have := hS c' hc
    unfold SlotIs at this ⊢
    cases hs : S c' with
    | no => rw [hs] at this; exact this
    | pr p => rw [hs] at this; exact this
    | kd k => rw [hs] at this; exact ⟨this.1, Trie.ended hk hP hT hT' n (l + 1) k _ _ this.2⟩
end Go.Proofs.YtchimfgbdfmegaaGreat
/- The law's trie of a list; the document's example. -/
namespace Go.Proofs.YtchimfgbdfmegaaGreat
open Go.RowKit Go.Lib
set_option linter.unusedVariables false
set_option linter.unusedSimpArgs false
set_option maxRecDepth 100000
attribute [local irreducible] cnt
/-- the pairs of the first j, as the law cuts them -/
def tl (ps : List Pr) (j : Nat) : List Pr := ((ps.take j).map few40).foldl putK []
def trieL (ps : List Pr) : List Pr := tl ps 30
theorem tl_succ {ps : List Pr} {j : Nat} (h : j < ps.length) : tl ps (j + 1) = putK (tl ps j) (few40 ps[j]) := by
  unfold tl
  rw [List.take_succ_eq_append_getElem h, List.map_append, List.foldl_append]
  rfl
theorem tl_all {ps : List Pr} {j : Nat} (h : ps.length ≤ j) : tl ps j = tl ps ps.length := by
  unfold tl
  rw [List.take_of_length_le h, List.take_of_length_le (Nat.le_refl _)]
theorem tl_zero (ps : List Pr) : tl ps 0 = [] := rfl
theorem tl_good (ps : List Pr) : ∀ j, RisesL (tl ps j) ∧ (tl ps j).length ≤ j ∧ Short (tl ps j)
  | 0 => ⟨rises_nil, by simp [tl_zero], fun p hp => by simp [tl_zero] at hp⟩
  | j + 1 => by
    obtain ⟨h1, h2, h3⟩ := tl_good ps j
    by_cases hj : j < ps.length
    · rw [tl_succ hj]
      refine ⟨put_rises _ h1, ?_, fun p hp => ?_⟩
      · have := put_len (ps := tl ps j) (few40 ps[j])
        omega
      · rcases put_sets.1 hp with rfl | ⟨h, _⟩
        · exact ⟨cut40_size _, cut40_size _⟩
        · exact h3 p h
    · have e : tl ps (j + 1) = tl ps j := by rw [tl_all (by omega : ps.length ≤ j + 1), tl_all (by omega : ps.length ≤ j)]
      rw [e]
      exact ⟨h1, by omega, h3⟩
theorem trieL_good (ps : List Pr) : RisesL (trieL ps) ∧ (trieL ps).length ≤ 30 ∧ Short (trieL ps) := tl_good ps 30
theorem Short.mid {ps : List Pr} (h : Short ps) : Mid ps := fun p hp => by have := h p hp; omega
theorem tl_min {ps : List Pr} {j : Nat} (h : ps.length ≤ j) : tl ps (min j 30) = trieL ps := by
  unfold trieL
  by_cases e : j ≤ 30
  · rw [Nat.min_eq_left e, tl_all h, tl_all (by omega : ps.length ≤ 30)]
  · rw [Nat.min_eq_right (by omega)]
/-- the pair at a place, as the walk spells its cells -/
theorem ArgP.atL {w wr : World} {a : Option Addr} {len cap : Nat} {ps : List Pr} (h : ArgP w a len cap ps) (hB : Below w.heap.size w wr) (j : Nat) (hj : j < len) :
    ∃ (x : Addr) (hl : j < ps.length), a = some x ∧ wr.cell? (x.add (j * 2)) = some (.string ps[j].1) ∧ wr.cell? ⟨(x.add (j * 2)).block, (x.add (j * 2)).off + 1, none⟩ = some (.string ps[j].2) := by
  rcases h with ⟨_, h, _⟩ | ⟨x, rfl, hl, hm, hz, hcell⟩
  · omega
  · have hlt : j < ps.length := by omega
    have hf := flat_get ps j _ (List.getElem?_eq_getElem hlt)
    have c0 := hcell _ _ hf.1
    have c1 := hcell _ _ hf.2
    exact ⟨x, hlt, rfl, (hB.cell (World.block_lt_of_cell? w _ c0)).trans c0, by rw [show (⟨(x.add (j * 2)).block, (x.add (j * 2)).off + 1, none⟩ : Addr) = (x.add (j * 2)).add 1 from rfl, Addr.add_add]; exact (hB.cell (World.block_lt_of_cell? w _ c1)).trans c1⟩
theorem ArgP.len {w : World} {a : Option Addr} {len cap : Nat} {ps : List Pr} (h : ArgP w a len cap ps) : ps.length = len := by
  rcases h with ⟨_, h, _, e⟩ | ⟨x, _, h, _⟩
  · rw [e, h]; rfl
  · exact h
theorem sized_of {L : List Pr} (h : ∀ x ∈ L, x.1.size ≤ maxLen) : Sized L := by
  intro j
  by_cases hj : j < L.length
  · have hm : pat L j ∈ L := by unfold pat; rw [List.getElem?_eq_getElem hj]; exact List.getElem_mem _
    exact h _ hm
  · unfold pat
    rw [List.getElem?_eq_none (by omega)]
    exact Nat.zero_le _
theorem OwnR.other {base n : Nat} {w w' : World} {v : Value} {xs : List Pr} {t : TypeId} {cs : Array Value} (h : OwnR base w v xs) (hb : Blk w n t cs) (ht : t ≠ 55) (hk : Keep [n] w w') : OwnR base w' v xs := own_keep h hk fun x hx e => by
  obtain rfl := List.mem_singleton.1 hx
  obtain ⟨cur, hc⟩ := own_cells h x e
  have hb' : w.heap[x]? = some (.cells cs t (0, 0)) := hb
  rw [hc] at hb'
  simp only [Option.some.injEq, Obj.cells.injEq] at hb'
  exact ht hb'.2.1.symm
/-- what trie answers -/
def TrieP (X : Nat → Prop) (k0 k1 m : Int) (ps : List Pr) (w : World) (e : Ending) (w' : World) : Prop :=
  ∃ b v, e = .returned (.tuple #[.pointer (some ⟨b, 0, none⟩), v]) ∧ TX X k0 k1 m w.heap.size w' b (trieL ps) ∧ OwnR w.heap.size w' v (trieL ps) ∧ Below w.heap.size w w'
set_option maxHeartbeats 16000000 in
theorem trie_law (X : Nat → Prop) (k0 k1 m : Int) (h0 : U64 k0) (h1 : U64 k1) (a : Option Addr) (len cap : Nat) (ps : List Pr) (w : World) (hX : ∀ x, X x → x < w.heap.size) (hp : ArgP w a len cap ps) :
    Calls Tryz.prog 9 #[.agg #[.int .u64 k0, .int .u64 k1, .int .u64 m], .slice a len cap] w (TrieP X k0 k1 m ps w) := by
  have hB0 := (Below.refl _ w).alloc (Nat.le_refl _) (.cells #[.int .u64 k0, .int .u64 k1, .int .u64 m] 26)
  have b1 := Blk.new w 26 #[.int .u64 k0, .int .u64 k1, .int .u64 m]
  have hl1 := hp.len_le
  have HA1 := Lib.hid hp
  have HLEN := Lib.hid hp.len
  have HP := Lib.hid (fun e w' (h : TrieP X k0 k1 m ps w e w') => h)
  clear hp
  have ke := empty_X (base := w.heap.size) (X := X) k0 k1 m hB0.size (fun x hx => Nat.lt_of_lt_of_le (hX x hx) hB0.size)
  go_enter Tryz.func9, Tryz.ntmps9
  go_wp2_with fail
  generalize w.alloc (.cells #[.int .u64 k0, .int .u64 k1, .int .u64 m] 26) = W at *
  obtain ⟨N4, hN4⟩ : ∃ N4, N4 = w.heap.size := ⟨_, rfl⟩
  rw [← hN4] at b1 ⊢
  clear hN4
  refine ke.mono ?_
  rintro e w2 ⟨b, rfl, hT, hB2⟩
  have hH := b1.below hB2
  have hB := hB0.trans (hB2.mono hB0.size)
  clear hB2 hB0 b1 ke
  go_wp2_with fail
  go_loopw [6, 7, 13] (fun v9 v10 vi wr => ∃ (j bn : Nat), j ≤ len ∧ vi = .int .i64 j ∧ v9 = .pointer (some ⟨bn, 0, none⟩) ∧ TX X k0 k1 m w.heap.size wr bn (tl ps (min j 30)) ∧ OwnR w.heap.size wr v10 (tl ps (min j 30)) ∧ Blk wr N4 26 #[.int .u64 k0, .int .u64 k1, .int .u64 m] ∧ Below w.heap.size w wr) (fun v9 v10 vi wr => len - (intOf vi).toNat)
  case atStart => exact ⟨0, b, by omega, rfl, rfl, hT, OwnR.nil _ _, hH, hB⟩
  case round =>
    clear hT hH hB
    obtain ⟨j, bq, hj, rfl, rfl, hTn, hOx, hH, hB⟩ := hrel
    by_cases hlt : j < len
    · obtain ⟨x, hlp, rfl, c0, c1⟩ := HA1.out.atL hB j hlt
      have L1 : (j : Int) < (len : Int) := by omega
      have L2 : IntKind.i64.wrap ((j : Int) + 1) = ((j + 1 : Nat) : Int) := by rw [IntWalk.i64_in _ (by omega)]; omega
      obtain ⟨hrX, hlX, hsX⟩ := tl_good ps (min j 30)
      by_cases h25 : j < 30
      · have G : (j : Int) < 30 := by omega
        have HS : Hid (tl ps (min (j + 1) 30) = putK (tl ps (min j 30)) (few40 ps[j])) := Lib.hid (by rw [Nat.min_eq_left (by omega), Nat.min_eq_left (by omega)]; exact tl_succ hlp)
        have hlX' : (tl ps (min j 30)).length ≤ 30 := by omega
        have kfew := fun w' => few_any ps[j] w'
        have hp1 : (few40 ps[j]).1.size ≤ 40 := cut40_size _
        clear hlX
        generalize tl ps (min j 30) = Y at *
        generalize few40 ps[j] = p at *
        generalize ps[j] = q at *
        have hp1000 : p.1.size ≤ 1000 := by omega
        have kp := fun w' (hw : Below w.heap.size w w') (hT : TX X k0 k1 m w.heap.size w' bq Y) => put_X p h0 h1 hp1000 hw.size (fun x hx => Nat.lt_of_lt_of_le (hX x hx) hw.size) hT hrX (by omega) (fun x hx => Nat.le_trans (hsX x hx).1 (by omega))
        go_upto_region 7 with (fail)
        have hBl := (Below.refl _ wr).alloc (Nat.le_refl _) (.cells #[.string q.1, .string q.2] 52)
        have hP := Blk.new wr 52 #[.string q.1, .string q.2]
        have hNP : w.heap.size ≤ wr.heap.size := hB.size
        have hNN : N4 ≠ wr.heap.size := Nat.ne_of_lt hH.lt
        have hTn := TX.set (X' := fun x => X x ∨ x = wr.heap.size) hTn (fun x hx => by
          rcases hx with h | rfl
          · exact .inl h
          · exact .inr (.inl (Nat.le_refl _)))
        have hB := hB.trans (hBl.mono hB.size)
        have hTn := TX.below hTn hBl
        have hOx := hOx.below' hBl
        have hH := hH.below hBl
        clear hBl c0 c1
        generalize wr.alloc (.cells #[.string q.1, .string q.2] 52) = w3 at *
        generalize wr.heap.size = NP at *
        have a0 : w3.cell? ⟨NP, 0, none⟩ = some (.string q.1) := hP.cell 0
        have a1 : w3.cell? ⟨NP, 1, none⟩ = some (.string q.2) := hP.cell 1
        go_wp2_with fail
        refine (kfew w3).mono ?_
        rintro e w4 ⟨rfl, hB4⟩
        have hB := hB.trans (hB4.mono hB.size)
        have hTn := TX.below hTn hB4
        have hOx := hOx.below' hB4
        have hH := hH.below hB4
        have hP := hP.below hB4
        clear a0 a1 hB4 kfew
        have a0 : w4.cell? ⟨NP, 0, none⟩ = some (.string q.1) := hP.cell 0
        have a1 : w4.cell? ⟨NP, 1, none⟩ = some (.string q.2) := hP.cell 1
        have f0 := hP.frozen 0
        have f1 := hP.frozen 1
        have s1 : (w4.setCell ⟨NP, 0, none⟩ (.string p.1)).cell? ⟨NP, 1, none⟩ = some (.string q.2) := (hP.set_ 0 (.string p.1)).cell 1
        have s2 := (hP.set_ 0 (.string p.1)).frozen 1
        have hk2 := Keep.two w4 NP 0 1 (.string p.1) (.string p.2)
        have hP2 : Blk ((w4.setCell ⟨NP, 0, none⟩ (.string p.1)).setCell ⟨NP, 1, none⟩ (.string p.2)) NP 52 #[.string p.1, .string p.2] := (hP.set_ 0 (.string p.1)).set_ 1 (.string p.2)
        have hTn2 := TX.keepG (G := fun x => x = NP) hTn ((KeepF.ofKeep hk2).mono fun x hx => .inl (List.mem_singleton.1 hx)) (fun x hx => .inr hx) (fun x hx cs hc => by subst hx; have h2 := hP.symm.trans hc; simp at h2)
        have hTn3 := TX.set (X' := X) hTn2 (fun x hx => .inl (.inl hx))
        have hOx2 := hOx.other hP (by decide) hk2
        have hH2 := Blk.keep hH hk2 (by simp; exact hNN)
        have hB2 := (hB.setCell (p := ⟨NP, 0, none⟩) hNP (.string p.1)).setCell (p := ⟨NP, 1, none⟩) hNP (.string p.2)
        have e0 : ((w4.setCell ⟨NP, 0, none⟩ (.string p.1)).setCell ⟨NP, 1, none⟩ (.string p.2)).cell? ⟨N4, 0, none⟩ = some (.int .u64 k0) := hH2.cell 0
        have e1 : ((w4.setCell ⟨NP, 0, none⟩ (.string p.1)).setCell ⟨NP, 1, none⟩ (.string p.2)).cell? ⟨N4, 1, none⟩ = some (.int .u64 k1) := hH2.cell 1
        have e2 : ((w4.setCell ⟨NP, 0, none⟩ (.string p.1)).setCell ⟨NP, 1, none⟩ (.string p.2)).cell? ⟨N4, 2, none⟩ = some (.int .u64 m) := hH2.cell 2
        have e3 : ((w4.setCell ⟨NP, 0, none⟩ (.string p.1)).setCell ⟨NP, 1, none⟩ (.string p.2)).cell? ⟨NP, 0, none⟩ = some (.string p.1) := hP2.cell 0
        have e4 : ((w4.setCell ⟨NP, 0, none⟩ (.string p.1)).setCell ⟨NP, 1, none⟩ (.string p.2)).cell? ⟨NP, 1, none⟩ = some (.string p.2) := hP2.cell 1
        have kp := kp _ hB2 hTn3
        have HT := Lib.hid hTn3
        have HO := Lib.hid hOx2
        have HH := Lib.hid hH2
        have HPP := Lib.hid hP2
        have HBB := Lib.hid hB2
        clear hTn hTn2 hTn3 hOx hOx2 hH hH2 hP hP2 hB hB2 hk2
        go_wp2_with fail
        refine kp.mono ?_
        rintro e w5 ⟨b1, rfl, hT1, hB5⟩
        have hB := HBB.out.trans (hB5.mono HBB.out.size)
        have hOx := HO.out.below' hB5
        have hH := HH.out.below hB5
        have hP := HPP.out.below hB5
        have e3 : w5.cell? ⟨NP, 0, none⟩ = some (.string p.1) := hP.cell 0
        have e4 : w5.cell? ⟨NP, 1, none⟩ = some (.string p.2) := hP.cell 1
        obtain ⟨A', c', e', hR⟩ := hOx.rd
        subst e'
        have kr := refPut_any A' c' Y p w5 hR (by omega) (sized_of fun x hx => Nat.le_trans (hsX x hx).1 (by unfold maxLen; omega)) (by unfold maxLen; omega)
        unfold Pr.v at kr
        generalize (getK Y p.1).isNone = gb at *
        clear HBB HO HH HPP HT kp hB5 hP hOx hR a0 a1 f0 f1 s1 s2
        go_wp2_with fail
        refine kr.mono ?_
        rintro e w7 ⟨v7, rfl, hO7, hB7⟩
        have hO7 := OwnR.base hO7 hB.size
        have hB := hB.trans (hB7.mono hB.size)
        have hT7 := TX.below hT1 hB7
        have hH := hH.below hB7
        clear kr hB7 hT1
        go_wp2_with fail
        exact ⟨⟨j + 1, b1, by omega, by go_num, rfl, by rw [HS.out]; exact hT7, by rw [HS.out]; exact hO7, hH, hB⟩, by simp [intOf]; omega⟩
      · have G : ¬ ((j : Int) < 30) := by omega
        have HS : Hid (tl ps (min (j + 1) 30) = tl ps (min j 30)) := Lib.hid (by rw [Nat.min_eq_right (by omega), Nat.min_eq_right (by omega)])
        clear hrX hlX hsX
        generalize tl ps (min j 30) = Y at *
        generalize ps[j] = q at *
        go_upto_region 6 with (fail)
        have hBl := (Below.refl _ wr).alloc (Nat.le_refl _) (.cells #[.string q.1, .string q.2] 52)
        have hB := hB.trans (hBl.mono hB.size)
        have hTn := TX.below hTn hBl
        have hOx := hOx.below' hBl
        have hH := hH.below hBl
        clear hBl c0 c1
        generalize wr.alloc (.cells #[.string q.1, .string q.2] 52) = w3 at *
        generalize wr.heap.size = NP at *
        go_wp2_with fail
        exact ⟨⟨j + 1, bq, by omega, by go_num, rfl, by rw [HS.out]; exact hTn, by rw [HS.out]; exact hOx, hH, hB⟩, by simp [intOf]; omega⟩
    · obtain rfl : j = len := by omega
      have G : ¬ ((j : Int) < (j : Int)) := by omega
      rw [tl_min (by rw [HLEN.out]; exact Nat.le_refl _)] at hTn hOx
      have HT := Lib.hid hTn
      have HO := Lib.hid hOx
      have HBB := Lib.hid hB
      clear hTn hOx hH hB HA1
      go_wp2_with fail
      go_ret2
      exact HP.out _ _ ⟨bq, _, rfl, HT.out, HO.out, HBB.out⟩
end Go.Proofs.YtchimfgbdfmegaaGreat
/- The document's example. -/
namespace Go.Proofs.YtchimfgbdfmegaaGreat
open Go.RowKit Go.Lib
set_option linter.unusedVariables false
set_option linter.unusedSimpArgs false
set_option maxRecDepth 100000
attribute [local irreducible] cnt
theorem inner_X (k0 k1 m : Int) {base : Nat} {w : World} (hb : base ≤ w.heap.size) : Calls Tryz.prog 24 #[] w (RetB fun b w' => TP k0 k1 m base w' b [] ∧ Below w.heap.size w w') := by
  refine (Inn.new w).mono ?_
  rintro e w1 ⟨b, rfl, -, hI, hB⟩
  unfold at0
  exact ⟨b, rfl, ⟨none, _, _, false, _, fun _ _ => False, hI.base hb, ⟨TV.nil _, fun t e => by simp at e⟩, ⟨fun e => by simp [ownB] at e, fun _ => ⟨fun x hx h => h.elim, fun _ h => h, fun _ _ _ h => h⟩⟩, fun c hc => ⟨rfl, fun _ h => h⟩⟩, hB⟩
theorem enc_empty (H : ByteArray → Nat) : (encB H 13 0 []).length = 9 := rfl
theorem small_empty (H : ByteArray → Nat) : SmallR (treeOf H 13 0 []) := tree_small H 13 0 [] (fun p hp => by simp at hp) (by simp)
set_option maxHeartbeats 4000000 in
theorem awake_any (w : World) : Calls Tryz.prog 8 #[] w (RetBool true w) := by
  have k1 := inner_X 0 0 0 (Nat.le_refl w.heap.size)
  go_enter Tryz.func8, Tryz.ntmps8
  go_wp2_with fail
  refine k1.mono ?_
  rintro e w1 ⟨b, rfl, hT, hB1⟩
  have hN := Trie.tree _ _ _ _ _ hT
  have k2 := of_node w.heap.size _ b w1 hN (SmallR.fair _ (small_empty _)) (by rw [encR_tree _ _ _ _ _ (by omega), enc_empty]; omega)
  have k3 := fun w' (hb : w.heap.size ≤ w'.heap.size) => empty_plain (base := w.heap.size) (w := w') 0 0 0 hb
  clear hN hT k1
  go_wp2_with fail
  refine k2.mono ?_
  rintro e w2 ⟨v2, rfl, ho, hB2, -⟩
  have hB := hB1.trans (hB2.mono hB1.size)
  obtain ⟨A, c, rfl⟩ := own_formN ho
  rw [encR_tree _ _ _ _ _ (by omega), enc_empty]
  clear hB1 hB2 ho k2
  have k3 := k3 w2 hB.size
  go_wp2_with fail
  refine k3.mono ?_
  rintro e w3 ⟨b3, rfl, hT3, hB3⟩
  have hB := hB.trans (hB3.mono hB.size)
  have k4 := canon_any 0 0 0 u64_zero u64_zero _ _ b3 w3 (Trie.tree _ _ _ _ _ hT3) (small_empty _)
  rw [tree_right] at k4
  unfold hasherV at0 at k4
  clear k3 hT3 hB3
  go_wp2_with fail
  refine k4.mono ?_
  rintro e w4 ⟨rfl, hB4⟩
  have hB := hB.trans (hB4.mono hB.size)
  have k5 := canon_nil 0 0 0 w4
  unfold hasherV at k5
  clear k4 hB4
  go_wp2_with fail
  refine k5.mono ?_
  rintro e w5 ⟨rfl, hB5⟩
  have hB := hB.trans (hB5.mono hB.size)
  clear k5 hB5
  go_wp2_with fail
  go_ret
  exact ⟨rfl, hB⟩
end Go.Proofs.YtchimfgbdfmegaaGreat
/- ShapeTries: what its last line says. -/
namespace Go.Proofs.YtchimfgbdfmegaaGreat
open Go.RowKit Go.Lib
set_option linter.unusedVariables false
set_option linter.unusedSimpArgs false
set_option maxRecDepth 100000
attribute [local irreducible] cnt
set_option maxHeartbeats 4000000 in
theorem refSame_any (A B : Option Addr) (ca cb : Nat) (xs ys : List Pr) (w : World) (hA : Rd w A xs) (hB : Rd w B ys) (hn : xs.length ≤ 1000) (hm : ys.length ≤ 1000) :
    Calls Tryz.prog 17 #[.slice A xs.length ca, .slice B ys.length cb] w fun e w' => e = .returned (.bool (leq xs ys)) ∧ ∃ n, w' = w.drewN n := by
  obtain ⟨n, hxs⟩ : ∃ n, n = xs.length := ⟨_, rfl⟩
  obtain ⟨m, hys⟩ : ∃ m, m = ys.length := ⟨_, rfl⟩
  have hneq := fun p q w => neq40 p q w
  rw [← hxs, ← hys]
  rw [← hxs] at hn
  rw [← hys] at hm
  have HX := Lib.hid hxs
  have HY := Lib.hid hys
  have HA := Lib.hid hA
  have HB := Lib.hid hB
  clear hxs hys hA hB
  by_cases hnm : n = m
  · subst hnm
    go_enter Tryz.func17, Tryz.ntmps17
    go_wp2_with fail
    go_loopw [13] (fun i wr => ∃ k : Nat, k ≤ n ∧ i = .int .i64 k ∧ Hid (xs.take k = ys.take k) ∧ ∃ q, wr = w.drewN q) (fun i wr => n - (intOf i).toNat)
    case atStart => exact ⟨0, by omega, rfl, Lib.hid rfl, 0, rfl⟩
    case round =>
      obtain ⟨k, hk, rfl, hE, q, rfl⟩ := hrel
      by_cases hlt : k < n
      · obtain ⟨ga, oa, rfl, a0, a1⟩ := (HA.out.drewN q).at k (by rw [← HX.out]; exact hlt)
        obtain ⟨gb, ob, rfl, b0, b1⟩ := (HB.out.drewN q).at k (by rw [← HY.out]; exact hlt)
        have hd : ∀ k, (w.drewN q).drewN k = w.drewN (q + k) := fun k => by simp [World.drewN, Nat.add_assoc]
        generalize hW : w.drewN q = W at *
        have HW := Lib.hid hW
        have HD := Lib.hid hd
        clear hd hW
        cases he : peq (pat xs k) (pat ys k) with
        | true =>
          have S := Lib.hid (leq_step (by rw [← HX.out, ← HY.out]) (by rw [← HX.out]; exact hlt) hE.out he)
          have hq := hneq (pat xs k) (pat ys k)
          rw [he] at hq
          clear hneq he
          go_wp2_with fail
          go_quiet (fail)
          go_wp2_with fail
          exact ⟨⟨k + 1, by omega, by go_num, S, q + nq, HD.out nq⟩, by simp [intOf]; omega⟩
        | false =>
          have S := Lib.hid (leq_no he)
          have hq := hneq (pat xs k) (pat ys k)
          rw [he] at hq
          clear hneq he
          go_wp2_with fail
          go_quiet (fail)
          go_wp2_with fail
          go_ret
          rw [S.out]
          exact ⟨rfl, q + nq, HD.out nq⟩
      · obtain rfl : k = n := by omega
        go_wp2_with fail
        go_ret
        have h := hE.out
        have : leq xs ys = true := by
          unfold leq
          rw [List.take_of_length_le (by rw [← HX.out]; omega), List.take_of_length_le (by rw [← HY.out]; omega)] at h
          simp [h]
        rw [this]
        exact ⟨rfl, q, rfl⟩
  · have : leq xs ys = false := by
      unfold leq
      rw [decide_eq_false_iff_not]
      rintro rfl; exact hnm (HX.out.trans HY.out.symm)
    rw [this]
    have F1 : ¬ ((n : Int) = (m : Int)) := by omega
    go_enter Tryz.func17, Tryz.ntmps17
    go_wp2_with fail
    go_ret
    exact ⟨rfl, 0, rfl⟩
theorem hz_lt (k0 k1 m : Int) (k : ByteArray) : hz k0 k1 m k < 18446744073709551616 := (hz_int k0 k1 m k).2
/-- the reference's trie of pairs -/
theorem refTrie_any (k0 k1 m : Int) (A : Option Addr) (c : Nat) (xs : List Pr) (w : World) (h0 : U64 k0) (h1 : U64 k1) (hR : Rd w A xs) (hn : xs.length ≤ 700) (hz1 : ∀ x ∈ xs, x.1.size ≤ 1000) :
    Calls Tryz.prog 13 #[.agg #[.int .u64 k0, .int .u64 k1, .int .u64 m], .slice A xs.length c, .int .i64 0] w (RetB fun b w1 => RfR w1 (treeOf (hz k0 k1 m) 13 0 xs) b ∧ Below w.heap.size w w1) := by
  refine Of_any _ k0 k1 m A c 0 xs w h0 h1 hR hn hz1 fun v w' hB hU => ?_
  refine (of_any (hz k0 k1 m) (hz_lt k0 k1 m) 13 0 rfl (fun _ => False) A c xs w.heap.size v w' (hR.below hB) (fun _ _ h => h) (fun _ h => h.elim) hn hU).mono ?_
  rintro e w1 ⟨b, rfl, hT, hB1⟩
  exact ⟨b, rfl, b, rfl, TrieR.tree _ _ _ _ hT, hB.trans (hB1.mono hB.size)⟩
theorem enc_small {H : ByteArray → Nat} {ps : List Pr} (h : Short ps) (hn : ps.length ≤ 800) : (encR 14 (treeOf H 13 0 ps)).length ≤ 1000000000 := by
  rw [encR_tree H 13 0 ps 14 (by omega)]
  have := encB_len H 13 0 ps h
  omega
theorem enc_same {H : ByteArray → Nat} {xs ys : List Pr} (hx : Short xs) (hy : Short ys) (hr : RisesL xs) (hs : RisesL ys) (hn : xs.length ≤ 800) (hm : ys.length ≤ 800) : decide (encR 14 (treeOf H 13 0 xs) = encR 14 (treeOf H 13 0 ys)) = leq xs ys := by
  unfold leq
  rw [decide_eq_decide, encR_tree H 13 0 xs 14 (by omega), encR_tree H 13 0 ys 14 (by omega)]
  constructor
  · intro h
    have := (encB_split H 13 0 xs ys [] [] hx.mid.fair hy.mid.fair (by omega) (by omega) (by rw [h])).1
    exact rises_ext hr hs this
  · rintro rfl; rfl
end Go.Proofs.YtchimfgbdfmegaaGreat
/- One block looks in one way. -/
namespace Go.Proofs.YtchimfgbdfmegaaGreat
open Go.RowKit Go.Lib
set_option linter.unusedVariables false
set_option linter.unusedSimpArgs false
set_option maxRecDepth 100000
attribute [local irreducible] cnt
theorem kb_bits {K : Nat → RT} {kb : Nat → Option Nat} {Q : Nat → Nat → Prop} (hk : ∀ c, c < 32 → ((K c).opt = none ∧ kb c = none) ∨ ∃ k, (K c).opt.isSome = true ∧ kb c = some k ∧ Q c k) : BitsOf (nodesR K) (fun i => (kb i).isSome) := ⟨nodesR_lt K, fun c hc => by
  rw [(bits_nodes K).bit c hc]
  rcases hk c hc with ⟨a, b⟩ | ⟨k, a, b, _⟩ <;> rw [a, b] <;> rfl⟩
attribute [local irreducible] maskTo fm
set_option maxHeartbeats 2000000 in
theorem NdR.enc {w : World} : ∀ (t : RT) (base : Nat) (b : Nat) (u : RT) (base' : Nat), NdR base w t b → NdR base' w u b → ∀ d, encR d t = encR d u
  | .no, base, b, u, base', h, _, d => h.elim
  | .bucket L, base, b, u, base', h, h', d => by
    obtain ⟨ow, pv, kv, hN⟩ := h
    cases u with
    | no => exact h'.elim
    | inner P K =>
      obtain ⟨ow', pv', kv', kb, hN', -⟩ := h'
      have := (hN.uniq hN').1
      simp at this
    | bucket L' =>
      obtain ⟨ow', pv', kv', hN'⟩ := h'
      rw [(hN.uniq hN').2.2.2.1]
  | .inner P K, base, b, u, base', h, h', d => by
    obtain ⟨ow, pv, kv, kb, hN, hk⟩ := h
    cases u with
    | no => exact h'.elim
    | bucket L' =>
      obtain ⟨ow', pv', kv', hN'⟩ := h'
      have := (hN.uniq hN').1
      simp at this
    | inner P' K' =>
      obtain ⟨ow', pv', kv', kb', hN', hk'⟩ := h'
      obtain ⟨-, e1, e2, e3, e4⟩ := hN.uniq hN'
      have b1 := kb_bits hk
      have b2 := kb_bits hk'
      rw [← e2] at b2
      cases d with
      | zero => rfl
      | succ d =>
        have e5 : (kidsR K).flatMap (encR d) = (kidsR K').flatMap (encR d) := by
          unfold kidsR
          rw [List.flatMap_def, List.flatMap_def, ← fm_map, ← fm_map]
          congr 1
          refine fm_congr _ _ 32 fun c hc => ?_
          have ek := fm_uniq b1 b2 e4 c hc
          rcases hk c hc with ⟨a1, a2⟩ | ⟨k, a1, a2, a3⟩
          · rcases hk' c hc with ⟨c1, c2⟩ | ⟨k', c1, c2, c3⟩
            · rw [a1, c1]
            · rw [a2, c2] at ek; simp at ek
          · rcases hk' c hc with ⟨c1, c2⟩ | ⟨k', c1, c2, c3⟩
            · rw [a2, c2] at ek; simp at ek
            · rw [a2, c2] at ek
              obtain rfl := Option.some.inj ek
              have e := NdR.enc (K c) base k (K' c) base' a3 c3 d
              cases h1 : (K c).opt with
              | none => rw [h1] at a1; cases a1
              | some t1 =>
                cases h2 : (K' c).opt with
                | none => rw [h2] at c1; cases c1
                | some t2 =>
                  obtain ⟨f1, -⟩ := opt_self h1
                  obtain ⟨f2, -⟩ := opt_self h2
                  subst f1; subst f2
                  simp only [Option.map_some, e]
        show 0 :: (fourB (dataR P) ++ (fourB (nodesR K) ++ (pairsB (fm P 32) ++ (kidsR K).flatMap (encR d)))) = 0 :: (fourB (dataR P') ++ (fourB (nodesR K') ++ (pairsB (fm P' 32) ++ (kidsR K').flatMap (encR d))))
        rw [e1, e2, e3, e5]
end Go.Proofs.YtchimfgbdfmegaaGreat
