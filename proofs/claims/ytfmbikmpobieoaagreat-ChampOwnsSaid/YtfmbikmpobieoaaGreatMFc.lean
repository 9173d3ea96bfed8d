/- Tries that keep away from some blocks; a read on which another operation waits. -/
import Derived.Test.YtfmbikmpobieoaaGreatMFb
namespace Go.Proofs.YtfmbikmpobieoaaGreat
open Go.RowKit Go.Lib
set_option linter.unusedVariables false
set_option linter.unusedSimpArgs false
set_option maxRecDepth 100000
attribute [local irreducible] cnt
section
variable {P : Program} {ops : Array Oper} {Q : Exit → Act → World → Prop} {md : Region.Mode} {S : World → Prop} {st mid : Nat}
theorem wpAnyL_first2 {i : Nat} {oi : Oper} {v : Value} (hi : ops[i]? = some oi) (hsel : ∀ (j : Nat) (o : Oper) cs b, ops[j]? = some o → o.op ≠ .select cs b)
    (hQ : ∀ c a w, Q (.panic c) (a.put oi.dst v) w → Q (.panic c) a w) (hne : i ≠ st) (hw1 : waits md ops mid i = true) (hw2 : waits md ops st mid = true) :
    ∀ (fuel : Nat) (listed : Array Bool) (a : Act) (w : World),
      (∀ j oj, ops[j]? = some oj → j ≠ i → listed.getD j true = false → (∀ e ∈ oj.after, Region.binds md e = true → e.on ≠ i) → oi.apart ops oj = true) →
      i ∈ Region.ready md ops listed → listed.getD st true = false → listed.getD mid true = false → YieldsIf P ops S oi v a → S w →
      wpAnyL P md ops Q S st fuel (listed.setIfInBounds i true) (a.put oi.dst v) w → wpAnyL P md ops Q S st (fuel + 1) listed a w := by
  intro fuel
  induction fuel with
  | zero =>
    intro listed a w _ hr hst hmid hy hS H
    refine ⟨fun h => (by rw [h] at hr; cases hr), fun j hj => ?_⟩
    by_cases hji : j = i
    · subst hji; exact hy.wpOp hi hS ⟨fun _ => hS, H⟩
    · have := ready_mono hj hji
      rw [H.1] at this
      cases this
  | succ fuel ih =>
    intro listed a w hfree hr hst hmid hy hS H
    refine ⟨fun h => (by rw [h] at hr; cases hr), fun j hj => ?_⟩
    have h0 := (mem_ready.1 hr).1
    by_cases hji : j = i
    · subst hji; exact hy.wpOp hi hS ⟨fun _ => hS, H⟩
    · have hjs : j ≠ st := by
        rintro rfl
        exact waits_not hw2 hmid hj
      have hjm : j ≠ mid := by
        rintro rfl
        exact waits_not hw1 (by simpa using h0) hj
      have h1 := H.2 j (ready_mono hj hji)
      obtain ⟨hjun, oj, hoj, hall⟩ := mem_ready.1 hj
      have hnot : ∀ e ∈ oj.after, Region.binds md e = true → e.on ≠ i := fun e he hb heq => by
        have h1 := hall e he hb
        rw [heq] at h1
        rcases Nat.lt_or_ge i listed.size with h' | h'
        · simp [h'] at h0 h1; rw [h0] at h1; cases h1
        · simp [Array.getElem?_eq_none h'] at h1
      have h2 := wpOp_putIf hoj (hfree j oj hoj hji hjun hnot) (fun cs b => hsel i oi cs b hi) (fun cs b => hsel j oj cs b hoj) hQ hy h1
      have hfree' : ∀ k ok, ops[k]? = some ok → k ≠ i → (listed.setIfInBounds j true).getD k true = false →
          (∀ e ∈ ok.after, Region.binds md e = true → e.on ≠ i) → oi.apart ops ok = true := fun k ok hk hki hun hno => by
        refine hfree k ok hk hki ?_ hno
        by_cases hjk : j = k
        · subst hjk; exact hjun
        · rw [getD_set_ne true hjk] at hun; exact hun
      have hst2 : (listed.setIfInBounds j true).getD st true = false := by rw [getD_set_ne true hjs]; exact hst
      have hmid2 : (listed.setIfInBounds j true).getD mid true = false := by rw [getD_set_ne true hjm]; exact hmid
      have hst3 : ((listed.setIfInBounds i true).setIfInBounds j true).getD st true = false := by rw [getD_set_ne true hjs, getD_set_ne true hne]; exact hst
      refine wpOp_mono (fun a' w' h3 => ⟨fun _ => h3.2.1 hst3, ih (listed.setIfInBounds j true) a' w' hfree' (ready_mono hr (Ne.symm hji)) hst2 hmid2 h3.1 (h3.2.1 hst3) ?_⟩) h2
      rw [Array.setIfInBounds_comm _ _ hji]
      exact h3.2.2
/-- a read for which an operation waits that st waits for -/
theorem wpAnyL_take2 {i : Nat} {oi : Oper} {v : Value} {fuel : Nat} {listed : Array Bool} {a : Act} {w : World} (mid : Nat) (hi : ops[i]? = some oi)
    (hs : Region.noSelect ops = true) (hf : Region.free md ops listed i = true) (hr : (Region.ready md ops listed).contains i = true)
    (hk : (decide (i ≠ st) && waits md ops mid i && waits md ops st mid && !(listed.getD st true) && !(listed.getD mid true)) = true)
    (hQ : ∀ c a w, Q (.panic c) (a.put oi.dst v) w → Q (.panic c) a w) (hS : S w) (hy : YieldsIf P ops S oi v a)
    (h : wpAnyL P md ops Q S st fuel (listed.setIfInBounds i true) (a.put oi.dst v) w) : wpAnyL P md ops Q S st (fuel + 1) listed a w := by
  simp only [Bool.and_eq_true, decide_eq_true_eq, Bool.not_eq_true'] at hk
  exact wpAnyL_first2 hi (Region.noSelect_spec hs) hQ hk.1.1.1.1 hk.1.1.1.2 hk.1.1.2 fuel listed a w (Region.free_spec hi hf) (by simpa using hr) hk.1.2 hk.2 hy hS h
end
/-- blocks from which a trie keeps away -/
theorem Trie.setX {H : ByteArray → Nat} {base : Nat} {w : World} {X X' : Nat → Prop} (hX : ∀ x, X' x → X x ∨ w.heap.size ≤ x ∨ ∃ t cs, Blk w x t cs ∧ t ≠ 109 ∧ t ≠ 34 ∧ t ≠ 30 ∧ t ≠ 92) : ∀ (n l b : Nat) (ps : List Pr) (F : Nat → Prop), Trie H X none false base w n l b ps F → Trie H X' none false base w n l b ps (fun _ => False)
  | 0, l, b, ps, F, h => by
    obtain ⟨ow, pv, kv, lo, hB, hv, hN⟩ := h
    have hn := hN.no (by simp [ownB])
    refine ⟨ow, pv, kv, lo, hB, ⟨hv.tv, fun t e hx => by
    subst e
    rcases hX t hx with h | h | ⟨_, _, h, _, _, _, h4⟩
    · exact hv.no t rfl h
    · have := hv.tv.old; omega
    · exact hv.tv.noTy h h4 rfl⟩, fun e => by simp [ownB] at e, fun _ => ⟨fun x hx hx' => ?_, fun _ h => h, fun _ _ _ h => h⟩⟩
    rcases hX x hx' with h | h | ⟨t, cs, h, h1, h2, h3, -⟩
    · exact hn.1 x hx h
    · have := hB.1.footLt x hx; omega
    · exact hB.1.noTy h h1 h2 h3 x hx rfl
  | n + 1, l, b, ps, F, h => by
    obtain ⟨ow, pv, kv, lo, S, Fs, hI, hv, hN, hS⟩ := h
    have hn := hN.no (by simp [ownB])
    refine ⟨ow, pv, kv, lo, S, fun _ _ => False, hI, ⟨hv.tv, fun t e hx => by
    subst e
    rcases hX t hx with h | h | ⟨_, _, h, _, _, _, h4⟩
    · exact hv.no t rfl h
    · have := hv.tv.old; omega
    · exact hv.tv.noTy h h4 rfl⟩, ⟨fun e => by simp [ownB] at e, fun _ => ⟨fun x hx hx' => ?_, fun _ h => h, fun _ _ _ h => h⟩⟩, fun c hc => ?_⟩
    · rcases hX x hx' with h | h | ⟨t, cs, h, h1, h2, h3, -⟩
      · exact hn.1 x hx h
      · have := hI.footLt x hx; omega
      · obtain ⟨d, nn, hN', -, -⟩ := hI
        exact hN'.noTy h h1 h2 h3 x hx rfl
    have := hS c hc
    unfold SlotIs at this ⊢
    cases hs : S c with
    | no => rw [hs] at this; exact ⟨this.1, fun _ h => h⟩
    | pr p => rw [hs] at this; exact ⟨this.1, fun _ h => h⟩
    | kd k => rw [hs] at this; exact ⟨this.1, Trie.setX hX n (l + 1) k _ _ this.2⟩
/-- a trie that keeps away from X -/
def TX (X : Nat → Prop) (k0 k1 m : Int) (base : Nat) (w : World) (b : Nat) (ps : List Pr) : Prop := Trie (hz k0 k1 m) X none false base w 13 0 b ps (fun _ => False)
section
variable {X X' : Nat → Prop} {k0 k1 m : Int} {base : Nat} {w w' : World} {b : Nat} {ps : List Pr}
theorem TX.below (h : TX X k0 k1 m base w b ps) (hb : Below w.heap.size w w') : TX X k0 k1 m base w' b ps := Trie.below h hb
theorem TX.set (h : TX X k0 k1 m base w b ps) (hX : ∀ x, X' x → X x ∨ w.heap.size ≤ x ∨ ∃ t cs, Blk w x t cs ∧ t ≠ 109 ∧ t ≠ 34 ∧ t ≠ 30 ∧ t ≠ 92) : TX X' k0 k1 m base w b ps := Trie.setX hX _ _ _ _ _ h
theorem TP.tx (h : TP k0 k1 m base w b ps) (hX : ∀ x, X' x → w.heap.size ≤ x ∨ ∃ t cs, Blk w x t cs ∧ t ≠ 109 ∧ t ≠ 34 ∧ t ≠ 30 ∧ t ≠ 92) : TX X' k0 k1 m base w b ps := Trie.setX (fun x hx => .inr (hX x hx)) _ _ _ _ _ h
theorem TX.keep (h : TX X k0 k1 m base w b ps) (hk : KeepF X w w') (hX : ∀ x, X x → ∀ cs, ¬ Blk w x 92 cs) : TX X k0 k1 m base w' b ps :=
  Trie.keep (fun t l hv => hv.keepF hk hX) 13 0 b ps _ X h hk (fun _ _ h => h) (fun _ h => h)
theorem cx_X (hb : base ≤ w.heap.size) (hX : ∀ x, X x → x < w.heap.size) : Cx X none false base w := ⟨TV.nil _, fun h => by simp at h, fun _ x hx h => by have := hX x h; omega, hb, fun h => by simp at h⟩
theorem ChPost.tx {b1 : Nat} (h : ChPost (hz k0 k1 m) X none false base 13 0 ps (fun _ => False) w b1 w') : TX X k0 k1 m base w' b1 ps ∧ Below w.heap.size w w' := by
  obtain ⟨F', hT, hK, -, -⟩ := h
  exact ⟨Trie.setX (fun x hx => .inl hx) _ _ _ _ _ hT, hK.below fun _ h => h⟩
theorem put_X (p : Pr) (h0 : U64 k0) (h1 : U64 k1) (hs : p.1.size ≤ 1000) (hb : base ≤ w.heap.size) (hX : ∀ x, X x → x < w.heap.size) (h : TX X k0 k1 m base w b ps) (hr : RisesL ps) (hn : ps.length ≤ 700) (hz1 : ∀ x ∈ ps, x.1.size ≤ 1000) :
    Calls Tryz.prog 15 #[.agg #[.int .u64 k0, .int .u64 k1, .int .u64 m], .pointer none, .pointer (some ⟨b, 0, none⟩), .agg #[.string p.1, .string p.2]] w fun e w' => ∃ b', e = .returned (.tuple #[.pointer (some ⟨b', 0, none⟩), .bool (getK ps p.1).isNone]) ∧ TX X k0 k1 m base w' b' (putK ps p) ∧ Below w.heap.size w w' := by
  cases hg : getK ps p.1 with
  | none =>
    refine (Put_none k0 k1 m _ none false base none p.1 p.2 b ps _ w rfl h0 h1 hs (cx_X hb hX) h hr hn hz1 hg).mono ?_
    rintro e w1 ⟨b1, rfl, hP⟩
    exact ⟨b1, rfl, hP.tx.1, hP.tx.2⟩
  | some v =>
    by_cases hv : v = p.2
    · subst hv
      refine (Put_same k0 k1 m _ none false base none p.1 p.2 b ps _ w rfl h0 h1 hs h hn hg).mono ?_
      rintro e w1 ⟨rfl, hB⟩
      exact ⟨b, rfl, by rw [put_same hr hg]; exact h.below hB, hB⟩
    · refine (Put_other k0 k1 m _ none false base none p.1 p.2 b ps _ w rfl h0 h1 hs (cx_X hb hX) h hr hn hz1 v hg hv).mono ?_
      rintro e w1 ⟨b1, rfl, hP⟩
      exact ⟨b1, rfl, hP.tx.1, hP.tx.2⟩
theorem drop_X (k : ByteArray) (h0 : U64 k0) (h1 : U64 k1) (hs : k.size ≤ 1000) (hb : base ≤ w.heap.size) (hX : ∀ x, X x → x < w.heap.size) (h : TX X k0 k1 m base w b ps) (hr : RisesL ps) (hn : ps.length ≤ 700) :
    Calls Tryz.prog 13 #[.agg #[.int .u64 k0, .int .u64 k1, .int .u64 m], .pointer none, .pointer (some ⟨b, 0, none⟩), .string k] w fun e w' => ∃ b', e = .returned (.tuple #[.pointer (some ⟨b', 0, none⟩), .bool (getK ps k).isSome]) ∧ TX X k0 k1 m base w' b' (dropK ps k) ∧ Below w.heap.size w w' := by
  cases hg : getK ps k with
  | none =>
    refine (Drop_none k0 k1 m _ none false base none k b ps _ w rfl h0 h1 hs h hn hg).mono ?_
    rintro e w1 ⟨rfl, hB⟩
    exact ⟨b, rfl, by rw [drop_none hg]; exact h.below hB, hB⟩
  | some v =>
    refine (Drop_there k0 k1 m _ none false base none k b ps _ w rfl h0 h1 hs (cx_X hb hX) h hr hn v hg).mono ?_
    rintro e w1 ⟨b1, rfl, hP⟩
    exact ⟨b1, rfl, hP.tx.1, hP.tx.2⟩
theorem trie_X {A : Option Addr} {c : Nat} (h : TX X k0 k1 m base w b ps) (h0 : U64 k0) (h1 : U64 k1) (hR : Rd w A ps) (hn : ps.length ≤ 700) (hz1 : ∀ x ∈ ps, x.1.size ≤ 1000) :
    Calls Tryz.prog 18 #[.agg #[.int .u64 k0, .int .u64 k1, .int .u64 m], .pointer (some ⟨b, 0, none⟩), .slice A ps.length c] w (TrueB w) := trie_any k0 k1 m _ none false base b ps _ A c w h h0 h1 hR hn hz1
end
end Go.Proofs.YtfmbikmpobieoaaGreat
