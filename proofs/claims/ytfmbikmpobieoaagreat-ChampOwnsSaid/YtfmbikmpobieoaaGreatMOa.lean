/- Changes by a dead token or a live one; tries whose owners a token is not; the end of a token. -/
import Derived.Test.YtfmbikmpobieoaaGreatMJc
import Derived.Test.YtfmbikmpobieoaaGreatMR
import Derived.BigQuiet
import Derived.Deep.RegionHeld3
namespace Go.Proofs.YtfmbikmpobieoaaGreat
open Go.RowKit Go.Lib
set_option linter.unusedVariables false
set_option linter.unusedSimpArgs false
set_option maxRecDepth 100000
attribute [local irreducible] cnt
theorem Trie.dead {H : ByteArray → Nat} {X : Nat → Prop} {base : Nat} {w : World} {tk : Option Nat} (tk' : Option Nat) : ∀ (n l b : Nat) (ps : List Pr) (F : Nat → Prop), Trie H X tk false base w n l b ps F → Trie H X tk' false base w n l b ps (fun _ => False)
  | 0, l, b, ps, F, h => by
    obtain ⟨ow, pv, kv, lo, hB, hv, hN⟩ := h
    have hn := hN.no (by simp [ownB])
    exact ⟨ow, pv, kv, lo, hB, hv, fun e => by simp [ownB] at e, fun _ => ⟨hn.1, fun _ h => h, fun _ _ _ h => h⟩⟩
  | n + 1, l, b, ps, F, h => by
    obtain ⟨ow, pv, kv, lo, S, Fs, hI, hv, hN, hS⟩ := h
    have hn := hN.no (by simp [ownB])
    refine ⟨ow, pv, kv, lo, S, fun _ _ => False, hI, hv, ⟨fun e => by simp [ownB] at e, fun _ => ⟨hn.1, fun _ h => h, fun _ _ _ h => h⟩⟩, fun c hc => ?_⟩
    have := hS c hc
    unfold SlotIs at this ⊢
    cases hs : S c with
    | no => rw [hs] at this; exact ⟨this.1, fun _ h => h⟩
    | pr p => rw [hs] at this; exact ⟨this.1, fun _ h => h⟩
    | kd k => rw [hs] at this; exact ⟨this.1, Trie.dead tk' n (l + 1) k _ _ this.2⟩
/-- a token that none of the trie's nodes has: by it, too, it is a trie, with nothing of its own -/
theorem Trie.alive {H : ByteArray → Nat} {X0 X : Nat → Prop} {base : Nat} {w : World} {T : Nat} (hT : X0 T) (hX : ∀ x, X x → X0 x ∨ w.heap.size ≤ x) : ∀ (n l b : Nat) (ps : List Pr) (F : Nat → Prop), Trie H X0 none false base w n l b ps F → Trie H X (some T) true base w n l b ps (fun _ => False)
  | 0, l, b, ps, F, h => by
    obtain ⟨ow, pv, kv, lo, hB, hv, hN⟩ := h
    have ho : ownB ow (some T) true = false := by
      unfold ownB
      simp only [Bool.true_and, decide_eq_false_iff_not]
      exact fun e => hv.no T e hT
    have hn := hN.no (by simp [ownB])
    have h1 : ∀ t, ow = some t → ¬ X t := fun t e hx => by
      subst e
      rcases hX t hx with h | h
      · exact hv.no t rfl h
      · have := hv.tv.old; omega
    have h2 : ∀ x ∈ foot b pv kv, ¬ X x := fun x hx h => by
      rcases hX x h with h | h
      · exact hn.1 x hx h
      · have := hB.1.footLt x hx; omega
    exact ⟨ow, pv, kv, lo, hB, ⟨hv.tv, h1⟩, fun e => (by rw [ho] at e; cases e), fun _ => ⟨h2, fun _ h => h, fun _ _ _ h => h⟩⟩
  | n + 1, l, b, ps, F, h => by
    obtain ⟨ow, pv, kv, lo, S, Fs, hI, hv, hN, hS⟩ := h
    have ho : ownB ow (some T) true = false := by
      unfold ownB
      simp only [Bool.true_and, decide_eq_false_iff_not]
      exact fun e => hv.no T e hT
    have hn := hN.no (by simp [ownB])
    have h1 : ∀ t, ow = some t → ¬ X t := fun t e hx => by
      subst e
      rcases hX t hx with h | h
      · exact hv.no t rfl h
      · have := hv.tv.old; omega
    have h2 : ∀ x ∈ foot b pv kv, ¬ X x := fun x hx h => by
      rcases hX x h with h | h
      · exact hn.1 x hx h
      · have := hI.footLt x hx; omega
    refine ⟨ow, pv, kv, lo, S, fun _ _ => False, hI, ⟨hv.tv, h1⟩, ⟨fun e => (by rw [ho] at e; cases e), fun _ => ⟨h2, fun _ h => h, fun _ _ _ h => h⟩⟩, fun c hc => ?_⟩
    have := hS c hc
    unfold SlotIs at this ⊢
    cases hs : S c with
    | no => rw [hs] at this; exact ⟨this.1, fun _ h => h⟩
    | pr p => rw [hs] at this; exact ⟨this.1, fun _ h => h⟩
    | kd k => rw [hs] at this; exact ⟨this.1, Trie.alive hT hX n (l + 1) k _ _ this.2⟩
/-- without a token it keeps away from what is none of the token's own -/
theorem Trie.leave {H : ByteArray → Nat} {X X' : Nat → Prop} {tk : Option Nat} {lv : Bool} {base : Nat} {w : World} (hX : ∀ x, X' x → X x) : ∀ (n l b : Nat) (ps : List Pr) (F : Nat → Prop), Trie H X tk lv base w n l b ps F → (∀ x, F x → ¬ X' x) → Trie H X' none false base w n l b ps (fun _ => False)
  | 0, l, b, ps, F, h, hF => by
    obtain ⟨ow, pv, kv, lo, hB, hv, hN⟩ := h
    refine ⟨ow, pv, kv, lo, hB, ⟨hv.tv, fun t e hx => hv.no t e (hX t hx)⟩, fun e => by simp [ownB] at e, fun _ => ⟨fun x hx h => ?_, fun _ h => h, fun _ _ _ h => h⟩⟩
    cases ho : ownB ow tk lv with
    | false => rw [ho] at hN; exact (hN.no rfl).1 x hx (hX x h)
    | true => rw [ho] at hN; exact hF x (((hN.yes rfl).2.1 x).2 (.inl hx)) h
  | n + 1, l, b, ps, F, h, hF => by
    obtain ⟨ow, pv, kv, lo, S, Fs, hI, hv, hN, hS⟩ := h
    refine ⟨ow, pv, kv, lo, S, fun _ _ => False, hI, ⟨hv.tv, fun t e hx => hv.no t e (hX t hx)⟩, ⟨fun e => by simp [ownB] at e, fun _ => ⟨fun x hx h => ?_, fun _ h => h, fun _ _ _ h => h⟩⟩, fun c hc => ?_⟩
    · cases ho : ownB ow tk lv with
      | false => rw [ho] at hN; exact (hN.no rfl).1 x hx (hX x h)
      | true => rw [ho] at hN; exact hF x (((hN.yes rfl).2.1 x).2 (.inl hx)) h
    · have hFc : ∀ x, Fs c x → ¬ X' x := fun x hx => by
        cases ho : ownB ow tk lv with
        | false => rw [ho] at hN; exact absurd hx ((hN.no rfl).2.2 c x hc)
        | true => rw [ho] at hN; exact hF x (((hN.yes rfl).2.1 x).2 (.inr ⟨c, hc, hx⟩))
      have := hS c hc
      unfold SlotIs at this ⊢
      cases hs : S c with
      | no => rw [hs] at this; exact ⟨this.1, fun _ h => h⟩
      | pr p => rw [hs] at this; exact ⟨this.1, fun _ h => h⟩
      | kd k => rw [hs] at this; exact ⟨this.1, Trie.leave hX n (l + 1) k _ _ this.2 hFc⟩
/-- the trie of no pairs keeps away from all that stands -/
theorem empty_X (k0 k1 m : Int) {base : Nat} {w : World} {X : Nat → Prop} (hb : base ≤ w.heap.size) (hX : ∀ x, X x → x < w.heap.size) : Calls Tryz.prog 10 #[] w (RetB fun b w' => TX X k0 k1 m base w' b [] ∧ Below w.heap.size w w') := by
  go_enter Tryz.func10, Tryz.ntmps10
  go_wp2_with fail
  refine (Inn.new w).mono ?_
  rintro e w1 ⟨b, rfl, -, hI, hB⟩
  unfold at0
  go_wp2_with fail
  go_ret
  exact ⟨b, rfl, ⟨none, _, _, false, _, fun _ _ => False, hI.base hb, ⟨TV.nil _, fun t e => by simp at e⟩, ⟨fun e => by simp [ownB] at e, fun _ => ⟨fun x hx h => by have := hX x h; have := hI.footGe x hx; omega, fun _ h => h, fun _ _ _ h => h⟩⟩, fun c hc => ⟨rfl, fun _ h => h⟩⟩, hB⟩
/-- of which kinds a token's own blocks are -/
theorem Trie.types {H : ByteArray → Nat} {X : Nat → Prop} {tk : Option Nat} {lv : Bool} {base : Nat} {w : World} : ∀ (n l b : Nat) (ps : List Pr) (F : Nat → Prop), Trie H X tk lv base w n l b ps F → ∀ x, F x → ∀ t cs, Blk w x t cs → t = 109 ∨ t = 34 ∨ t = 30
  | 0, l, b, ps, F, h => by
    obtain ⟨ow, pv, kv, lo, hB, hv, hN⟩ := h
    intro x hx t cs hb
    by_cases h1 : t = 109
    · exact .inl h1
    by_cases h2 : t = 34
    · exact .inr (.inl h2)
    by_cases h3 : t = 30
    · exact .inr (.inr h3)
    exfalso
    cases ho : ownB ow tk lv with
    | false => rw [ho] at hN; exact absurd hx ((hN.no rfl).2.1 x)
    | true =>
      rw [ho] at hN
      rcases ((hN.yes rfl).2.1 x).1 hx with hx | ⟨c, _, hx⟩
      · exact hB.1.noTy hb h1 h2 h3 x hx rfl
      · exact hx.elim
  | n + 1, l, b, ps, F, h => by
    obtain ⟨ow, pv, kv, lo, S, Fs, hI, hv, hN, hS⟩ := h
    intro x hx t cs hb
    cases ho : ownB ow tk lv with
    | false => rw [ho] at hN; exact absurd hx ((hN.no rfl).2.1 x)
    | true =>
      rw [ho] at hN
      rcases ((hN.yes rfl).2.1 x).1 hx with hx | ⟨c, hc, hx⟩
      · by_cases h1 : t = 109
        · exact .inl h1
        by_cases h2 : t = 34
        · exact .inr (.inl h2)
        by_cases h3 : t = 30
        · exact .inr (.inr h3)
        obtain ⟨d, nn, hN', -, -⟩ := hI
        exact absurd rfl (hN'.noTy hb h1 h2 h3 x hx)
      · have := hS c hc
        unfold SlotIs at this
        cases hs : S c with
        | no => rw [hs] at this; exact absurd hx (this.2 x)
        | pr p => rw [hs] at this; exact absurd hx (this.2 x)
        | kd k => rw [hs] at this; exact Trie.types n (l + 1) k _ _ this.2 x hx t cs hb
section
variable {X : Nat → Prop} {k0 k1 m : Int} {base : Nat} {w w' : World} {b : Nat} {ps : List Pr}
theorem cx_D {tk : Option Nat} (hv : TV w tk false) (hb : base ≤ w.heap.size) (hX : ∀ x, X x → x < w.heap.size) : Cx X tk false base w := ⟨hv, fun h => by simp at h, fun _ x hx h => by have := hX x h; omega, hb, fun h => by simp at h⟩
theorem ChPost.txD {tk : Option Nat} {b1 : Nat} (h : ChPost (hz k0 k1 m) X tk false base 13 0 ps (fun _ => False) w b1 w') : TX X k0 k1 m base w' b1 ps ∧ Below w.heap.size w w' := by
  obtain ⟨F', hT, hK, -, -⟩ := h
  exact ⟨Trie.dead none _ _ _ _ _ hT, hK.below fun _ h => h⟩
theorem put_D (tk : Option Nat) (T : Option Addr) (hpt : pt tk = .pointer T) (hv : TV w tk false) (p : Pr) (h0 : U64 k0) (h1 : U64 k1) (hs : p.1.size ≤ 1000) (hb : base ≤ w.heap.size) (hX : ∀ x, X x → x < w.heap.size) (h : TX X k0 k1 m base w b ps) (hr : RisesL ps) (hn : ps.length ≤ 700) (hz1 : ∀ x ∈ ps, x.1.size ≤ 1000) :
    Calls Tryz.prog 15 #[.agg #[.int .u64 k0, .int .u64 k1, .int .u64 m], .pointer T, .pointer (some ⟨b, 0, none⟩), .agg #[.string p.1, .string p.2]] w fun e w' => ∃ (b' : Nat) (g : Bool), e = .returned (.tuple #[.pointer (some ⟨b', 0, none⟩), .bool g]) ∧ TX X k0 k1 m base w' b' (putK ps p) ∧ Below w.heap.size w w' := by
  have hd := Trie.dead tk _ _ _ _ _ h
  cases hg : getK ps p.1 with
  | none =>
    refine (Put_none k0 k1 m _ tk false base T p.1 p.2 b ps _ w hpt h0 h1 hs (cx_D hv hb hX) hd hr hn hz1 hg).mono ?_
    rintro e w1 ⟨b1, rfl, hP⟩
    exact ⟨b1, _, rfl, hP.txD.1, hP.txD.2⟩
  | some v =>
    by_cases hv' : v = p.2
    · subst hv'
      refine (Put_same k0 k1 m _ tk false base T p.1 p.2 b ps _ w hpt h0 h1 hs hd hn hg).mono ?_
      rintro e w1 ⟨rfl, hB⟩
      exact ⟨b, _, rfl, by rw [put_same hr hg]; exact h.below hB, hB⟩
    · refine (Put_other k0 k1 m _ tk false base T p.1 p.2 b ps _ w hpt h0 h1 hs (cx_D hv hb hX) hd hr hn hz1 v hg hv').mono ?_
      rintro e w1 ⟨b1, rfl, hP⟩
      exact ⟨b1, _, rfl, hP.txD.1, hP.txD.2⟩
theorem drop_D (tk : Option Nat) (T : Option Addr) (hpt : pt tk = .pointer T) (hv : TV w tk false) (k : ByteArray) (h0 : U64 k0) (h1 : U64 k1) (hs : k.size ≤ 1000) (hb : base ≤ w.heap.size) (hX : ∀ x, X x → x < w.heap.size) (h : TX X k0 k1 m base w b ps) (hr : RisesL ps) (hn : ps.length ≤ 700) :
    Calls Tryz.prog 13 #[.agg #[.int .u64 k0, .int .u64 k1, .int .u64 m], .pointer T, .pointer (some ⟨b, 0, none⟩), .string k] w fun e w' => ∃ (b' : Nat) (g : Bool), e = .returned (.tuple #[.pointer (some ⟨b', 0, none⟩), .bool g]) ∧ TX X k0 k1 m base w' b' (dropK ps k) ∧ Below w.heap.size w w' := by
  have hd := Trie.dead tk _ _ _ _ _ h
  cases hg : getK ps k with
  | none =>
    refine (Drop_none k0 k1 m _ tk false base T k b ps _ w hpt h0 h1 hs hd hn hg).mono ?_
    rintro e w1 ⟨rfl, hB⟩
    exact ⟨b, _, rfl, by rw [drop_none hg]; exact h.below hB, hB⟩
  | some v =>
    refine (Drop_there k0 k1 m _ tk false base T k b ps _ w hpt h0 h1 hs (cx_D hv hb hX) hd hr hn v hg).mono ?_
    rintro e w1 ⟨b1, rfl, hP⟩
    exact ⟨b1, _, rfl, hP.txD.1, hP.txD.2⟩
theorem ChPost.stay {tk : Option Nat} {lv : Bool} {F : Nat → Prop} (h : Trie (hz k0 k1 m) X tk lv base w 13 0 b ps F) (hv : TV w tk lv) (hB : Below w.heap.size w w') : ChPost (hz k0 k1 m) X tk lv base 13 0 ps F w b w' :=
  ⟨F, h.below hB, KeepF.ofBelow hB, hv.below hB, fun y hy => .inl hy⟩
theorem put_L (T : Nat) (p : Pr) {F : Nat → Prop} (h0 : U64 k0) (h1 : U64 k1) (hs : p.1.size ≤ 1000) (hcx : Cx X (some T) true base w) (h : Trie (hz k0 k1 m) X (some T) true base w 13 0 b ps F) (hr : RisesL ps) (hn : ps.length ≤ 700) (hz1 : ∀ x ∈ ps, x.1.size ≤ 1000) :
    Calls Tryz.prog 15 #[.agg #[.int .u64 k0, .int .u64 k1, .int .u64 m], .pointer (some ⟨T, 0, none⟩), .pointer (some ⟨b, 0, none⟩), .agg #[.string p.1, .string p.2]] w fun e w' => ∃ (b' : Nat) (g : Bool), e = .returned (.tuple #[.pointer (some ⟨b', 0, none⟩), .bool g]) ∧ ChPost (hz k0 k1 m) X (some T) true base 13 0 (putK ps p) F w b' w' := by
  cases hg : getK ps p.1 with
  | none =>
    refine (Put_none k0 k1 m _ (some T) true base (some ⟨T, 0, none⟩) p.1 p.2 b ps _ w rfl h0 h1 hs hcx h hr hn hz1 hg).mono ?_
    rintro e w1 ⟨b1, rfl, hP⟩
    exact ⟨b1, _, rfl, hP⟩
  | some v =>
    by_cases hv' : v = p.2
    · subst hv'
      refine (Put_same k0 k1 m _ (some T) true base (some ⟨T, 0, none⟩) p.1 p.2 b ps _ w rfl h0 h1 hs h hn hg).mono ?_
      rintro e w1 ⟨rfl, hB⟩
      exact ⟨b, _, rfl, by rw [put_same hr hg]; exact .stay h hcx.tv hB⟩
    · refine (Put_other k0 k1 m _ (some T) true base (some ⟨T, 0, none⟩) p.1 p.2 b ps _ w rfl h0 h1 hs hcx h hr hn hz1 v hg hv').mono ?_
      rintro e w1 ⟨b1, rfl, hP⟩
      exact ⟨b1, _, rfl, hP⟩
theorem drop_L (T : Nat) (k : ByteArray) {F : Nat → Prop} (h0 : U64 k0) (h1 : U64 k1) (hs : k.size ≤ 1000) (hcx : Cx X (some T) true base w) (h : Trie (hz k0 k1 m) X (some T) true base w 13 0 b ps F) (hr : RisesL ps) (hn : ps.length ≤ 700) :
    Calls Tryz.prog 13 #[.agg #[.int .u64 k0, .int .u64 k1, .int .u64 m], .pointer (some ⟨T, 0, none⟩), .pointer (some ⟨b, 0, none⟩), .string k] w fun e w' => ∃ (b' : Nat) (g : Bool), e = .returned (.tuple #[.pointer (some ⟨b', 0, none⟩), .bool g]) ∧ ChPost (hz k0 k1 m) X (some T) true base 13 0 (dropK ps k) F w b' w' := by
  cases hg : getK ps k with
  | none =>
    refine (Drop_none k0 k1 m _ (some T) true base (some ⟨T, 0, none⟩) k b ps _ w rfl h0 h1 hs h hn hg).mono ?_
    rintro e w1 ⟨rfl, hB⟩
    exact ⟨b, _, rfl, by rw [drop_none hg]; exact .stay h hcx.tv hB⟩
  | some v =>
    refine (Drop_there k0 k1 m _ (some T) true base (some ⟨T, 0, none⟩) k b ps _ w rfl h0 h1 hs hcx h hr hn v hg).mono ?_
    rintro e w1 ⟨b1, rfl, hP⟩
    exact ⟨b1, _, rfl, hP⟩
/-- G, of X, is changed -/
theorem TX.keepG {G : Nat → Prop} (h : TX X k0 k1 m base w b ps) (hk : KeepF G w w') (hG : ∀ x, G x → X x) (h92 : ∀ x, G x → ∀ cs, ¬ Blk w x 92 cs) : TX X k0 k1 m base w' b ps :=
  Trie.keep (fun t l hv => hv.keepF hk h92) 13 0 b ps _ G h hk (fun _ _ h => h) hG
end
theorem tv_ended {w w' : World} {p c k t i : Nat} {out : Int} {q : List Nat} {l0 : Bool} (hk : Keep [p, c, t] w w') (hP : Pool w p c k out q) (hT : Tok w t p i l0) (hT' : Tok w' t p i false) {ow : Option Nat} {lo : Bool} (h : TV w ow lo) : ∃ lo', TV w' ow lo' := by
  rcases h with h | ⟨t', p', id, e, h⟩
  · exact ⟨lo, .inl h⟩
  · by_cases ht : t' = t
    · subst ht
      exact ⟨false, .inr ⟨t', p, i, e, hT'⟩⟩
    · have hne := h.ne hP
      exact ⟨lo, .inr ⟨t', p', id, e, h.keep hk (by simp; exact ⟨hne.1, hne.2, ht⟩)⟩⟩
/-- the token's end -/
theorem Trie.ended {H : ByteArray → Nat} {X : Nat → Prop} {base : Nat} {w w' : World} {p c k t i : Nat} {out : Int} {q : List Nat} {l0 : Bool} (hk : Keep [p, c, t] w w') (hP : Pool w p c k out q) (hT : Tok w t p i l0) (hT' : Tok w' t p i false) : ∀ (n l b : Nat) (ps : List Pr) (F : Nat → Prop), Trie H X none false base w n l b ps F → Trie H X none false base w' n l b ps F
  | 0, l, b, ps, F, h => by
    obtain ⟨ow, pv, kv, lo, hB, hv, hN⟩ := h
    have hft : ∀ x ∈ foot b pv kv, x ∉ [p, c, t] := by
      intro x hx hm
      obtain ⟨hbp, s, r, hc⟩ := hP
      simp only [List.mem_cons, List.not_mem_nil, or_false] at hm
      rcases hm with rfl | rfl | rfl
      · exact hB.1.noTy hbp (by decide) (by decide) (by decide) x hx rfl
      · simp only [foot, List.mem_cons, List.mem_append, Option.mem_toList] at hx
        rcases hx with rfl | e | e
        · have := hB.1.blk; unfold Blk at this; rw [hc] at this; simp at this
        · obtain ⟨cur, h'⟩ := own_cells hB.1.prs x e; rw [hc] at h'; simp at h'
        · obtain ⟨cur, h'⟩ := own_cells hB.1.kds x e; rw [hc] at h'; simp at h'
      · exact hB.1.noTy hT (by decide) (by decide) (by decide) x hx rfl
    obtain ⟨lo', hv'⟩ := tv_ended hk hP hT hT' hv.tv
    exact ⟨ow, pv, kv, lo', ⟨hB.1.keep hk hft, hB.2⟩, ⟨hv', hv.no⟩, hN⟩
  | n + 1, l, b, ps, F, h => by
    obtain ⟨ow, pv, kv, lo, S, Fs, hI, hv, hN, hS⟩ := h
    obtain ⟨lo', hv'⟩ := tv_ended hk hP hT hT' hv.tv
    refine ⟨ow, pv, kv, lo', S, Fs, hI.keepTok hk hP hT, ⟨hv', hv.no⟩, hN, fun c' hc => ?_⟩
    have := hS c' hc
    unfold SlotIs at this ⊢
    cases hs : S c' with
    | no => rw [hs] at this; exact this
    | pr p => rw [hs] at this; exact this
    | kd k => rw [hs] at this; exact ⟨this.1, Trie.ended hk hP hT hT' n (l + 1) k _ _ this.2⟩
end Go.Proofs.YtfmbikmpobieoaaGreat
/- Versions in two rows that lie behind boxes, beside a token of which no version's node is. -/
namespace Go.Proofs.YtfmbikmpobieoaaGreat
open Go.RowKit Go.Lib
set_option linter.unusedVariables false
set_option linter.unusedSimpArgs false
set_option maxRecDepth 100000
attribute [local irreducible] cnt
structure VX (Z : Nat → Prop) (k0 k1 m : Int) (base : Nat) (W : World) (v5 v6 : Value) (bs : List Nat) (ls : List Value) (ts : List (Nat × List Pr)) (us : List (Value × List Pr)) : Prop where
  r5 : W.ownsRow base 30 1 v5 bs.length (kcs bs)
  r6 : W.ownsRow base 32 1 v6 ls.length ls
  eT : ∀ e ∈ ts, TX (fun x => atBlk v5 x ∨ Z x) k0 k1 m base W e.1 e.2
  eL : ∀ e ∈ us, OwnR base W e.1 e.2
  hb : base ≤ W.heap.size
  tok : ∀ x, Z x → ∃ p id l, Tok W x p id l
section
variable {Z : Nat → Prop} {k0 k1 m : Int} {base : Nat} {W W' : World} {v5 v6 : Value} {bs : List Nat} {ls : List Value} {ts : List (Nat × List Pr)} {us : List (Value × List Pr)}
theorem VX.below (h : VX Z k0 k1 m base W v5 v6 bs ls ts us) (hb : Below W.heap.size W W') : VX Z k0 k1 m base W' v5 v6 bs ls ts us :=
  ⟨own_keep h.r5 (Keep.of_below (X := []) hb) (by simp), own_keep h.r6 (Keep.of_below (X := []) hb) (by simp), fun e he => (h.eT e he).below hb, fun e he => (h.eL e he).below' hb, Nat.le_trans h.hb hb.size, fun x hx => by
    obtain ⟨p, id, l, ht⟩ := h.tok x hx
    exact ⟨p, id, l, ht.keep (Keep.of_below (X := []) hb) (by simp)⟩⟩
theorem VX.addT (h : VX Z k0 k1 m base W v5 v6 bs ls ts us) {b : Nat} {ps : List Pr} (hT : TX (fun x => atBlk v5 x ∨ Z x) k0 k1 m base W b ps) : VX Z k0 k1 m base W v5 v6 bs ls (ts ++ [(b, ps)]) us :=
  ⟨h.r5, h.r6, fun e he => by
    rcases List.mem_append.1 he with he | he
    · exact h.eT e he
    · rw [List.mem_singleton] at he; rw [he]; exact hT, h.eL, h.hb, h.tok⟩
theorem VX.addL (h : VX Z k0 k1 m base W v5 v6 bs ls ts us) {v : Value} {ps : List Pr} (hL : OwnR base W v ps) : VX Z k0 k1 m base W v5 v6 bs ls ts (us ++ [(v, ps)]) :=
  ⟨h.r5, h.r6, h.eT, fun e he => by
    rcases List.mem_append.1 he with he | he
    · exact h.eL e he
    · rw [List.mem_singleton] at he; rw [he]; exact hL, h.hb, h.tok⟩
theorem VX.xlt (h : VX Z k0 k1 m base W v5 v6 bs ls ts us) : ∀ x, (atBlk v5 x ∨ Z x) → x < W.heap.size := fun x hx => by
  rcases hx with hx | hx
  · obtain ⟨cur, hc⟩ := own_cells h.r5 x hx
    exact blk_lt hc
  · obtain ⟨p, id, l, ht⟩ := h.tok x hx
    exact ht.lt
theorem VX.weak {Z' : Nat → Prop} (h : VX Z k0 k1 m base W v5 v6 bs ls ts us) (hz : ∀ x, Z' x → Z x) : VX Z' k0 k1 m base W v5 v6 bs ls ts us :=
  ⟨h.r5, h.r6, fun e he => (h.eT e he).set fun x hx => .inl (hx.imp_right (hz x)), h.eL, h.hb, fun x hx => h.tok x (hz x hx)⟩
/-- the token ends -/
theorem VX.ended (h : VX Z k0 k1 m base W v5 v6 bs ls ts us) {p c k t i : Nat} {out : Int} {q : List Nat} {l0 : Bool} (kk : Keep [p, c, t] W W') (hP : Pool W p c k out q) (hT : Tok W t p i l0) (hT' : Tok W' t p i false) : VX Z k0 k1 m base W' v5 v6 bs ls ts us := by
  have hno : ∀ (x : Nat) (t' : TypeId) (cur : Array Value), x ∈ [p, c, t] → W.heap[x]? = some (.cells cur t' (0, 0)) → t' = 90 ∨ t' = 92 := fun x t' cur hm hx => by
    obtain ⟨hbp, s, r, hc⟩ := hP
    simp only [List.mem_cons, List.not_mem_nil, or_false] at hm
    unfold Tok at hT
    unfold Blk at hbp hT
    rcases hm with rfl | rfl | rfl
    · rw [hbp] at hx; simp at hx; exact .inl hx.2.symm
    · rw [hc] at hx; simp at hx
    · rw [hT] at hx; simp at hx; exact .inr hx.2.symm
  refine ⟨own_keep h.r5 kk fun x hx e => ?_, own_keep h.r6 kk fun x hx e => ?_, fun e he => Trie.ended kk hP hT hT' _ _ _ _ _ (h.eT e he), fun e he => own_keep (h.eL e he) kk fun x hx e' => ?_, Nat.le_trans h.hb kk.all.size, fun x hx => ?_⟩
  · obtain ⟨cur, hc2⟩ := own_cells h.r5 x e
    have := hno x _ cur hx hc2; simp at this
  · obtain ⟨cur, hc2⟩ := own_cells h.r6 x e
    have := hno x _ cur hx hc2; simp at this
  · obtain ⟨cur, hc2⟩ := own_cells (h.eL e he) x e'
    have := hno x _ cur hx hc2; simp at this
  · obtain ⟨p', id, l, ht⟩ := h.tok x hx
    by_cases e : x = t
    · subst e; exact ⟨p, i, false, hT'⟩
    · have hne := ht.ne hP
      exact ⟨p', id, l, ht.keep kk (by simp; exact ⟨hne.1, hne.2, e⟩)⟩
/-- a list, in whatever place of the world a row of another kind grows -/
theorem VX.grow5 {g cap b : Nat} (h : VX Z k0 k1 m base W v5 v6 bs ls ts us) (hg : W.grownBy W' v5.ownBlock) (ho : W'.ownsRow base 30 1 (.slice (some ⟨g, 0, none⟩) (bs.length + 1) cap) (bs.length + 1) (kcs bs ++ [at0 b])) (ha : v5.ownBlock = some g ∨ g = W.heap.size) :
    VX Z k0 k1 m base W' (.slice (some ⟨g, 0, none⟩) (bs.length + 1) cap) v6 (bs ++ [b]) ls ts us := by
  have kk := keep_grown hg
  have hty : ∀ x, v5.ownBlock = some x → ∃ cs, Blk W x 30 cs := fun x hx => own_cells h.r5 x hx
  have hKF : KeepF (fun x => atBlk v5 x ∨ W.heap.size ≤ x) W W' := (KeepF.ofKeep kk).mono fun x hx => .inl (.inl (by simpa [atBlk] using hx))
  refine ⟨?_, own_keep h.r6 kk fun x hx e => ?_, fun e he => ?_, fun e he => own_keep (h.eL e he) kk fun x hx e' => ?_, Nat.le_trans h.hb hg.size, ?_⟩
  · rw [List.length_append]
    have e1 : kcs (bs ++ [b]) = kcs bs ++ [at0 b] := by simp [kcs]
    rw [e1]; exact ho
  · obtain ⟨cs, hc⟩ := hty x (by simpa using hx)
    obtain ⟨cur, hc2⟩ := own_cells h.r6 x e
    unfold Blk at hc
    rw [hc2] at hc; simp at hc
  · have t1 : TX (fun x => (atBlk v5 x ∨ W.heap.size ≤ x) ∨ Z x) k0 k1 m base W e.1 e.2 := (h.eT e he).set fun x hx => by
      rcases hx with (hx | hx) | hx
      · exact .inl (.inl hx)
      · exact .inr (.inl hx)
      · exact .inl (.inr hx)
    have t2 := t1.keepG hKF (fun x hx => .inl hx) fun x hx cs hB => by
      rcases hx with hx | hx
      · obtain ⟨cs', hc⟩ := hty x hx
        unfold Blk at hc hB
        rw [hc] at hB; simp at hB
      · have := blk_lt hB; omega
    exact t2.set fun x hx => .inl (by
      rcases hx with hx | hx
      · unfold atBlk at hx
        simp [Value.ownBlock] at hx
        subst hx
        rcases ha with ha | ha
        · exact .inl (.inl ha)
        · exact .inl (.inr (by omega))
      · exact .inr hx)
  · obtain ⟨cs, hc⟩ := hty x (by simpa using hx)
    obtain ⟨cur, hc2⟩ := own_cells (h.eL e he) x e'
    unfold Blk at hc
    rw [hc2] at hc; simp at hc
  · intro y hy
    obtain ⟨p, id, l, ht⟩ := h.tok y hy
    refine ⟨p, id, l, ht.keep kk fun hm => ?_⟩
    obtain ⟨cs, hc⟩ := hty y (by simpa using hm)
    unfold Tok at ht
    unfold Blk at hc ht
    rw [hc] at ht; simp at ht
theorem VX.grow6 {g cap : Nat} {u : Value} (h : VX Z k0 k1 m base W v5 v6 bs ls ts us) (hg : W.grownBy W' v6.ownBlock) (ho : W'.ownsRow base 32 1 (.slice (some ⟨g, 0, none⟩) (ls.length + 1) cap) (ls.length + 1) (ls ++ [u])) :
    VX Z k0 k1 m base W' v5 (.slice (some ⟨g, 0, none⟩) (ls.length + 1) cap) bs (ls ++ [u]) ts us := by
  have kk := keep_grown hg
  have hty : ∀ x, v6.ownBlock = some x → ∃ cs, Blk W x 32 cs := fun x hx => own_cells h.r6 x hx
  refine ⟨own_keep h.r5 kk fun x hx e => ?_, ?_, fun e he => ?_, fun e he => own_keep (h.eL e he) kk fun x hx e' => ?_, Nat.le_trans h.hb hg.size, ?_⟩
  · obtain ⟨cs, hc⟩ := hty x (by simpa using hx)
    obtain ⟨cur, hc2⟩ := own_cells h.r5 x e
    unfold Blk at hc
    rw [hc2] at hc; simp at hc
  · rw [List.length_append]; exact ho
  · have t1 : TX (fun x => (atBlk v5 x ∨ Z x) ∨ atBlk v6 x) k0 k1 m base W e.1 e.2 := (h.eT e he).set fun x hx => by
      rcases hx with hx | hx
      · exact .inl hx
      · obtain ⟨cs, hc⟩ := hty x hx
        exact .inr (.inr ⟨32, cs, hc, by decide, by decide, by decide, by decide⟩)
    have hKF : KeepF (atBlk v6) W W' := (KeepF.ofKeep kk).mono fun x hx => .inl (by simpa [atBlk] using hx)
    have t2 := t1.keepG hKF (fun x hx => .inr hx) fun x hx cs hB => by
      obtain ⟨cs', hc⟩ := hty x hx
      unfold Blk at hc hB
      rw [hc] at hB; simp at hB
    exact t2.set fun x hx => .inl (.inl hx)
  · obtain ⟨cs, hc⟩ := hty x (by simpa using hx)
    obtain ⟨cur, hc2⟩ := own_cells (h.eL e he) x e'
    unfold Blk at hc
    rw [hc2] at hc; simp at hc
  · intro y hy
    obtain ⟨p, id, l, ht⟩ := h.tok y hy
    refine ⟨p, id, l, ht.keep kk fun hm => ?_⟩
    obtain ⟨cs, hc⟩ := hty y (by simpa using hm)
    unfold Tok at ht
    unfold Blk at hc ht
    rw [hc] at ht; simp at ht
/-- a block of another kind is written -/
theorem VX.far {g : Nat} {t : TypeId} {cs : Array Value} (h : VX Z k0 k1 m base W v5 v6 bs ls ts us) (hB : Blk W g t cs) (h1 : t ≠ 109 ∧ t ≠ 34 ∧ t ≠ 30 ∧ t ≠ 92 ∧ t ≠ 32 ∧ t ≠ 45) (kk : Keep [g] W W') : VX Z k0 k1 m base W' v5 v6 bs ls ts us := by
  obtain ⟨n1, n2, n3, n4, n5, n6⟩ := h1
  have hne : ∀ (t' : TypeId) (cur : Array Value), W.heap[g]? = some (.cells cur t' (0, 0)) → t = t' := fun t' cur hc => by
    unfold Blk at hB
    rw [hc] at hB; simp at hB; exact hB.2.symm
  refine ⟨own_keep h.r5 kk fun x hx e => ?_, own_keep h.r6 kk fun x hx e => ?_, fun e he => ?_, fun e he => own_keep (h.eL e he) kk fun x hx e' => ?_, Nat.le_trans h.hb kk.all.size, ?_⟩
  · rw [List.mem_singleton] at hx; subst hx
    obtain ⟨cur, hc2⟩ := own_cells h.r5 x e
    exact n3 (hne _ _ hc2)
  · rw [List.mem_singleton] at hx; subst hx
    obtain ⟨cur, hc2⟩ := own_cells h.r6 x e
    exact n5 (hne _ _ hc2)
  · have t1 : TX (fun x => (atBlk v5 x ∨ Z x) ∨ x = g) k0 k1 m base W e.1 e.2 := (h.eT e he).set fun x hx => by
      rcases hx with hx | rfl
      · exact .inl hx
      · exact .inr (.inr ⟨t, cs, hB, n1, n2, n3, n4⟩)
    have hKF : KeepF (fun x => x = g) W W' := (KeepF.ofKeep kk).mono fun x hx => .inl (by simpa using hx)
    have t2 := t1.keepG hKF (fun x hx => .inr hx) fun x hx cs' hB' => by
      subst hx
      exact n4 (hne _ _ hB')
    exact t2.set fun x hx => .inl (.inl hx)
  · rw [List.mem_singleton] at hx; subst hx
    obtain ⟨cur, hc2⟩ := own_cells (h.eL e he) x e'
    exact n6 (hne _ _ hc2)
  · intro y hy
    obtain ⟨p, id, l, ht⟩ := h.tok y hy
    refine ⟨p, id, l, ht.keep kk fun hm => ?_⟩
    rw [List.mem_singleton] at hm
    subst hm
    exact n4 (hne _ _ ht)
/-- other blocks, beside the two rows -/
theorem VX.far5 (h : VX Z k0 k1 m base W v5 v6 bs ls ts us) (hg : W.grownBy W' v5.ownBlock) {b : Nat} {t : TypeId} {cs : Array Value} (hB : Blk W b t cs) (ht : t ≠ 30) : Blk W' b t cs := hB.keep (keep_grown hg) fun hm => by
  obtain ⟨cs', hc⟩ := own_cells h.r5 b (by simpa using hm)
  unfold Blk at hB
  rw [hc] at hB; simp at hB; exact ht hB.2.symm
theorem VX.far6 (h : VX Z k0 k1 m base W v5 v6 bs ls ts us) (hg : W.grownBy W' v6.ownBlock) {b : Nat} {t : TypeId} {cs : Array Value} (hB : Blk W b t cs) (ht : t ≠ 32) : Blk W' b t cs := hB.keep (keep_grown hg) fun hm => by
  obtain ⟨cs', hc⟩ := own_cells h.r6 b (by simpa using hm)
  unfold Blk at hB
  rw [hc] at hB; simp at hB; exact ht hB.2.symm
end
/-- the kinds of blocks that a version's coming may write -/
def TyF (w : World) (x : Nat) : Prop := ∃ t cs, Blk w x t cs ∧ (t = 30 ∨ t = 32 ∨ t = 49 ∨ t = 50)
def KT (w w' : World) : Prop := KeepF (TyF w) w w'
theorem KT.refl (w : World) : KT w w := KeepF.refl _ _
theorem KT.ofBelow {w w' : World} (h : Below w.heap.size w w') : KT w w' := KeepF.ofBelow h
theorem KT.trans {a b c : World} (h : KT a b) (k : KT b c) : KT a c :=
  ⟨h.all.trans k.all, fun x hx hF => by
    have e1 := h.block x hx hF
    refine (k.block x (Nat.lt_of_lt_of_le hx h.size) fun ⟨t, cs, hB, ht⟩ => hF ⟨t, cs, ?_, ht⟩).trans e1
    unfold Blk at hB ⊢
    rw [← e1]; exact hB⟩
theorem KT.one {w w' : World} {g : Nat} {t : TypeId} {cs : Array Value} (hB : Blk w g t cs) (ht : t = 30 ∨ t = 32 ∨ t = 49 ∨ t = 50) (k : Keep [g] w w') : KT w w' :=
  (KeepF.ofKeep k).mono fun x hx => .inl (by rw [List.mem_singleton] at hx; subst hx; exact ⟨t, cs, hB, ht⟩)
theorem KT.grown {w w' : World} {base n : Nat} {t : TypeId} {v : Value} {xs : List Value} (h : w.ownsRow base t 1 v n xs) (hg : w.grownBy w' v.ownBlock) (ht : t = 30 ∨ t = 32 ∨ t = 49 ∨ t = 50) : KT w w' :=
  (KeepF.ofKeep (keep_grown hg)).mono fun x hx => .inl (by
    obtain ⟨cs, hc⟩ := own_cells h x (by simpa using hx)
    exact ⟨t, cs, hc, ht⟩)
theorem Blk.kt {w w' : World} {g : Nat} {t : TypeId} {cs : Array Value} (hB : Blk w g t cs) (hk : KT w w') (ht : t ≠ 30 ∧ t ≠ 32 ∧ t ≠ 49 ∧ t ≠ 50) : Blk w' g t cs := by
  refine (hk.block g hB.lt fun ⟨t', cs', hB', h⟩ => ?_).trans hB
  unfold Blk at hB hB'
  rw [hB] at hB'
  simp at hB'
  obtain ⟨-, rfl⟩ := hB'
  obtain ⟨a, b, c, d⟩ := ht
  rcases h with h | h | h | h <;> contradiction
theorem Pool.kt {w w' : World} {p c k : Nat} {out : Int} {q : List Nat} (h : Pool w p c k out q) (hk : KT w w') : Pool w' p c k out q := by
  obtain ⟨hb, s, r, hc⟩ := h
  refine ⟨hb.kt hk (by decide), s, r, (hk.block c (blk_lt hc) fun ⟨t', cs', hB', _⟩ => ?_).trans hc⟩
  unfold Blk at hB'
  rw [hc] at hB'; simp at hB'
end Go.Proofs.YtfmbikmpobieoaaGreat
/- ChampOwns, part by part. -/
namespace Go.Proofs.YtfmbikmpobieoaaGreat
open Go.ChangeShapes Go.WideShapes Go.RowKit Go.Lib
set_option linter.unusedVariables false
set_option linter.unusedSimpArgs false
set_option maxRecDepth 100000
attribute [local irreducible] cnt
theorem dmod {dd : Nat} (h : dd < 256) : (dd % 4 = 3 → IntKind.u8.wrap (Int.tmod (dd : Int) 4) = 3) ∧ (dd % 4 ≠ 3 → ¬ IntKind.u8.wrap (Int.tmod (dd : Int) 4) = 3) := by
  have e : IntKind.u8.wrap (Int.tmod (dd : Int) 4) = ((dd % 4 : Nat) : Int) := by
    have e1 : Int.tmod (dd : Int) 4 = ((dd % 4 : Nat) : Int) := by rw [Int.tmod_eq_emod_of_nonneg (by omega)]; omega
    rw [e1]
    unfold IntKind.wrap
    simp [IntKind.bits, IntKind.signed]
    omega
  rw [e]
  exact ⟨fun h => by omega, fun h => by omega⟩
/-- what is known of the versions' pairs -/
def VerP (n : Nat) (vs : List Ver) : Prop := ∀ e ∈ vs, RisesL e.ps ∧ e.ps.length ≤ n ∧ ∀ x ∈ e.ps, x.1.size ≤ 40
/-- roots and lists behind their boxes -/
structure VB (Z : Nat → Prop) (k0 k1 m : Int) (base N5 N6 : Nat) (W : World) (v5 v6 : Value) (bs : List Nat) (ls : List Value) (ts : List (Nat × List Pr)) (us : List (Value × List Pr)) : Prop where
  x : VX Z k0 k1 m base W v5 v6 bs ls ts us
  b5 : Blk W N5 49 #[v5]
  b6 : Blk W N6 50 #[v6]
section
variable {Z : Nat → Prop} {k0 k1 m : Int} {base N5 N6 : Nat} {W W' : World} {v5 v6 : Value} {bs : List Nat} {ls : List Value} {ts : List (Nat × List Pr)} {us : List (Value × List Pr)}
theorem VB.below (h : VB Z k0 k1 m base N5 N6 W v5 v6 bs ls ts us) (hb : Below W.heap.size W W') : VB Z k0 k1 m base N5 N6 W' v5 v6 bs ls ts us := ⟨h.x.below hb, h.b5.below hb, h.b6.below hb⟩
theorem VB.ne (h : VB Z k0 k1 m base N5 N6 W v5 v6 bs ls ts us) : N6 ≠ N5 := by
  rintro rfl
  have h5 := h.b5
  have h6 := h.b6
  unfold Blk at h5 h6
  rw [h5] at h6; simp at h6
end
theorem box_ne {W : World} {N5 N6 : Nat} {v u : Value} (h5 : Blk W N5 49 #[v]) (h6 : Blk W N6 50 #[u]) : N6 ≠ N5 := by
  rintro rfl
  unfold Blk at h5 h6
  rw [h5] at h6; simp at h6
theorem TV.kt {w w' : World} {tk : Option Nat} {l : Bool} (h : TV w tk l) (hk : KT w w') : TV w' tk l := by
  rcases h with h | ⟨t, p, id, e, h⟩
  · exact .inl h
  · exact .inr ⟨t, p, id, e, Blk.kt h hk (by decide)⟩
theorem set1 (v v' : Value) : (#[v] : Array Value).setIfInBounds 0 v' = #[v'] := rfl
theorem nn3 {a b c d : Nat} (h : a ≠ b) : True := trivial
theorem Blk.keepF {F : Nat → Prop} {w w' : World} {g : Nat} {t : TypeId} {cs : Array Value} (h : Blk w g t cs) (hk : KeepF F w w') (hF : ¬ F g) : Blk w' g t cs := (hk.block g h.lt hF).trans h
theorem OwnR.keepF {F : Nat → Prop} {w w' : World} {base : Nat} {v : Value} {ps : List Pr} (h : OwnR base w v ps) (hk : KeepF F w w') (hF : ∀ x, F x → ∀ t cs, Blk w x t cs → t = 109 ∨ t = 34 ∨ t = 30) : OwnR base w' v ps := by
  obtain ⟨X, hX, hXF⟩ := hk.keep
  refine own_keep h hX fun x hx e => ?_
  obtain ⟨cur, hc⟩ := own_cells h x e
  have := hF x (hXF x hx) 45 cur hc
  simp at this
end Go.Proofs.YtfmbikmpobieoaaGreat
