/- Nodes that are changed in one place, and the reference's. -/
import Derived.Test.YtchimfgbdfmegaaGreatGas
import Derived.Test.YtchimfgbdfmegaaGreatGat
import Derived.Test.YtchimfgbdfmegaaGreatGaf
namespace Go.Proofs.YtchimfgbdfmegaaGreat
open Go.RowKit Go.Lib
set_option linter.unusedVariables false
set_option linter.unusedSimpArgs false
set_option maxRecDepth 100000
attribute [local irreducible] cnt
/-- a root that nobody's token may change -/
def RootN (base : Nat) (w : World) (P : Nat → Option Pr) (K : Nat → RT) (b : Nat) : Prop :=
  ∃ (ow : Option Nat) (lo : Bool) (S : Slots) (pv kv : Value), Inn base w b ow S pv kv ∧ TV w ow lo ∧ ∀ c, c < 32 → S.P c = P c ∧ (((K c).opt = none ∧ S.K c = none) ∨ ∃ k, (K c).opt.isSome = true ∧ S.K c = some k ∧ NdR base w (K c) k)
def setP (P : Nat → Option Pr) (c : Nat) (x : Option Pr) : Nat → Option Pr := fun j => if j = c then x else P j
def setK (K : Nat → RT) (c : Nat) (x : RT) : Nat → RT := fun j => if j = c then x else K j
section
variable {base : Nat} {w w' : World} {b : Nat} {P : Nat → Option Pr} {K : Nat → RT}
theorem RootN.node (h : RootN base w P K b) : NdR base w (.inner P K) b := by
  obtain ⟨ow, lo, S, pv, kv, ⟨d, nn, hN, hd, hn⟩, hv, hs⟩ := h
  have e1 : fm S.P 32 = fm P 32 := fm_congr _ _ 32 fun c hc => (hs c hc).1
  have e2 : d = dataR P := (bits_mask hd).trans (maskTo_congr 32 fun c hc => by rw [(hs c hc).1])
  have e3 : nn = nodesR K := (bits_mask hn).trans (maskTo_congr 32 fun c hc => by
    rcases (hs c hc).2 with ⟨a, b⟩ | ⟨k, a, b, _⟩ <;> rw [a, b] <;> rfl)
  rw [e1, e2, e3] at hN
  refine ⟨_, pv, kv, S.K, hN, fun c hc => ?_⟩
  exact (hs c hc).2
theorem RootN.below (h : RootN base w P K b) (hb : Below w.heap.size w w') : RootN base w' P K b := by
  obtain ⟨ow, lo, S, pv, kv, hI, hv, hs⟩ := h
  refine ⟨ow, lo, S, pv, kv, hI.below hb, hv.below hb, fun c hc => ⟨(hs c hc).1, ?_⟩⟩
  rcases (hs c hc).2 with h | ⟨k, a, b, h⟩
  · exact .inl h
  · exact .inr ⟨k, a, b, NdR.below _ h hb⟩
theorem Trie.root {H : ByteArray → Nat} {X : Nat → Prop} {tk : Option Nat} {lv : Bool} {n l : Nat} {ps : List Pr} {F : Nat → Prop} (h : Trie H X tk lv base w (n + 1) l b ps F) :
    RootN base w (fun c => onep (sub H l c ps)) (fun c => match many (sub H l c ps) with | none => .no | some qs => treeOf H n (l + 1) qs) b := by
  obtain ⟨ow, pv, kv, lo, S, Fs, hI, hv, hNF, hS⟩ := h
  refine ⟨ow, lo, S, pv, kv, hI, hv.tv, fun c hc => ?_⟩
  dsimp only
  have h := hS c hc
  unfold SlotIs at h
  cases e : S c with
  | no =>
    rw [e] at h
    rw [h.1]
    exact ⟨by show (S c).p? = _; rw [e]; rfl, .inl ⟨rfl, by show (S c).k? = _; rw [e]; rfl⟩⟩
  | pr p =>
    rw [e] at h
    rw [h.1]
    exact ⟨by show (S c).p? = _; rw [e]; rfl, .inl ⟨rfl, by show (S c).k? = _; rw [e]; rfl⟩⟩
  | kd k =>
    rw [e] at h
    have hm : many (sub H l c ps) = some (sub H l c ps) := many_some.2 ⟨rfl, h.1⟩
    refine ⟨?_, .inr ⟨k, by simp only [hm]; rw [tree_opt]; rfl, by show (S c).k? = _; rw [e]; rfl, ?_⟩⟩
    · show (S c).p? = _
      rw [e]
      match hq : sub H l c ps, h.1 with
      | _ :: _ :: _, _ => rfl
    · simp only [hm]
      exact Trie.tree n (l + 1) k _ _ h.2
theorem Chg.below0 {b1 : Nat} {pv kv pv1 kv1 : Value} (h : Chg false b pv kv b1 pv1 kv1 w w') : Below w.heap.size w w' := h.keepNew
theorem RootN.put (x : Sl) (u : RT) {S : Slots} {ow : Option Nat} {pv kv : Value} {c : Nat} (hc : c < 32) (hs : ∀ c, c < 32 → S.P c = P c ∧ (((K c).opt = none ∧ S.K c = none) ∨ ∃ k, (K c).opt.isSome = true ∧ S.K c = some k ∧ NdR base w (K c) k))
    (hx : (x.k? = none ∧ u.opt = none) ∨ ∃ k, x.k? = some k ∧ u.opt.isSome = true ∧ NdR base w u k) {e : Ending} (h : InnPost base (ownB ow none false) b pv kv (newOw none false) (S.put c x) w e w') :
    ∃ b1, e = .returned (at0 b1) ∧ RootN base w' (setP P c x.p?) (setK K c u) b1 ∧ Below w.heap.size w w' := by
  obtain ⟨b1, pv1, kv1, rfl, hI, hC⟩ := h
  have ho : ownB ow none false = false := by unfold ownB; rfl
  rw [ho] at hC
  have hB := hC.below0
  have hn : newOw none false = none := rfl
  rw [hn] at hI
  refine ⟨b1, rfl, ⟨none, false, _, pv1, kv1, hI, TV.nil _, fun j hj => ?_⟩, hB⟩
  have eP := S.P_put c x
  have eK := S.K_put c x
  unfold setP setK
  by_cases e : j = c
  · subst e
    rw [if_pos rfl, if_pos rfl, eP.1, eK.1]
    refine ⟨rfl, ?_⟩
    rcases hx with ⟨a, b⟩ | ⟨k, a, b, h⟩
    · exact .inl ⟨b, a⟩
    · exact .inr ⟨k, b, a, NdR.below _ h hB⟩
  · rw [if_neg e, if_neg e, eP.2 j e, eK.2 j e]
    refine ⟨(hs j hj).1, ?_⟩
    rcases (hs j hj).2 with h | ⟨k, a, b, h⟩
    · exact .inl h
    · exact .inr ⟨k, a, b, NdR.below _ h hB⟩
theorem RootN.setPair (h : RootN base w P K b) (p : Pr) (c : Nat) (hc : c < 32) (hb : base ≤ w.heap.size) :
    Calls Tryz.prog 21 #[at0 b, .pointer none, .int .i64 c, p.v] w fun e w' => ∃ b1, e = .returned (at0 b1) ∧ RootN base w' (setP P c (some p)) (setK K c .no) b1 ∧ Below w.heap.size w w' := by
  obtain ⟨ow, lo, S, pv, kv, hI, hv, hs⟩ := h
  exact (Inn.setPair base b c ow none lo false S pv kv w hI (TV.nil _) hv hc hb p).mono fun e w' h => RootN.put (.pr p) .no hc hs (.inl ⟨rfl, rfl⟩) h
theorem RootN.clear (h : RootN base w P K b) (c : Nat) (hc : c < 32) (hb : base ≤ w.heap.size) :
    Calls Tryz.prog 22 #[at0 b, .pointer none, .int .i64 c] w fun e w' => ∃ b1, e = .returned (at0 b1) ∧ RootN base w' (setP P c none) (setK K c .no) b1 ∧ Below w.heap.size w w' := by
  obtain ⟨ow, lo, S, pv, kv, hI, hv, hs⟩ := h
  exact (Inn.clear base b c ow none lo false S pv kv w hI (TV.nil _) hv hc hb).mono fun e w' h => RootN.put .no .no hc hs (.inl ⟨rfl, rfl⟩) h
theorem RootN.setKid (h : RootN base w P K b) (u : RT) (k c : Nat) (hc : c < 32) (hb : base ≤ w.heap.size) (hu : u.opt.isSome = true) (hk : NdR base w u k) :
    Calls Tryz.prog 23 #[at0 b, .pointer none, .int .i64 c, at0 k] w fun e w' => ∃ b1, e = .returned (at0 b1) ∧ RootN base w' (setP P c none) (setK K c u) b1 ∧ Below w.heap.size w w' := by
  obtain ⟨ow, lo, S, pv, kv, hI, hv, hs⟩ := h
  exact (Inn.setKid base b c ow none lo false S pv kv w hI (TV.nil _) hv hc hb k).mono fun e w' h => RootN.put (.kd k) u hc hs (.inr ⟨k, rfl, hu, hk⟩) h
theorem RootN.new (hb : base ≤ w.heap.size) : Calls Tryz.prog 24 #[] w fun e w' => ∃ b1, e = .returned (at0 b1) ∧ RootN base w' (fun _ => none) (fun _ => .no) b1 ∧ Below w.heap.size w w' := by
  refine (Inn.new w).mono ?_
  rintro e w1 ⟨b1, rfl, -, hI, hB⟩
  exact ⟨b1, rfl, ⟨none, false, _, _, _, hI.base hb, TV.nil _, fun c hc => ⟨rfl, .inl ⟨rfl, rfl⟩⟩⟩, hB⟩
end
/-- where the reference's nodes lie; N names none of their blocks, and no node is below itself -/
def RfN : (Nat → Prop) → World → RT → Nat → Prop
  | N, w, .no, _ => False
  | N, w, .bucket L, b => ∃ f A c, RB w b f ∧ ¬ N b ∧ f 0 = .bool true ∧ f 1 = .slice A L.length c ∧ Rd w A L ∧ (∀ a, A = some a → ¬ N a.block ∧ a.block < w.heap.size) ∧ (∀ c, c < 32 → f (2 + c) = .int .i64 0) ∧ (A = none → c = 0)
  | N, w, .inner P K, b => ∃ f, RB w b f ∧ ¬ N b ∧ f 0 = .bool false ∧ f 1 = .slice none 0 0 ∧ ∀ c, c < 32 →
      (P c = none ∧ (K c).opt = none ∧ f (2 + c) = .int .i64 0) ∨
      (∃ p, P c = some p ∧ (K c).opt = none ∧ f (2 + c) = .int .i64 1 ∧ f (34 + c * 2) = .string p.1 ∧ f (34 + c * 2 + 1) = .string p.2) ∨
      (P c = none ∧ ∃ kb, (K c).opt = some (K c) ∧ f (2 + c) = .int .i64 2 ∧ f (98 + c) = at0 kb ∧ RfN (fun x => N x ∨ x = b) w (K c) kb)
theorem RfN.keepN {w w' : World} (hs : w.heap.size ≤ w'.heap.size) : ∀ (t : RT) (N : Nat → Prop) (hk : ∀ b, b < w.heap.size → ¬ N b → w'.heap[b]? = w.heap[b]?) (b : Nat), RfN N w t b → RfN N w' t b
  | .no, N, hk, b, h => h
  | .bucket L, N, hk, b, h => by
    obtain ⟨f, A, c, h1, h0, h2, h3, h4, h5, h6⟩ := h
    exact ⟨f, A, c, h1.keepN hk h0, h0, h2, h3, h4.keepN hk (fun a ha => (h5 a ha).1), fun a ha => ⟨(h5 a ha).1, Nat.lt_of_lt_of_le (h5 a ha).2 hs⟩, h6⟩
  | .inner P K, N, hk, b, h => by
    obtain ⟨f, h1, h0, h2, h2', h3⟩ := h
    refine ⟨f, h1.keepN hk h0, h0, h2, h2', fun c hc => ?_⟩
    rcases h3 c hc with h | h | ⟨h4, kb, h5, h6, h7, h8⟩
    · exact .inl h
    · exact .inr (.inl h)
    · exact .inr (.inr ⟨h4, kb, h5, h6, h7, RfN.keepN hs (K c) _ (fun x hx hn => hk x hx fun h => hn (.inl h)) kb h8⟩)
theorem RfN.below {N : Nat → Prop} {w w' : World} (t : RT) {b : Nat} (h : RfN N w t b) (hb : Below w.heap.size w w') : RfN N w' t b := RfN.keepN hb.size t N (fun b hl _ => hb.block b hl) b h
theorem RfN.rf {w : World} : ∀ (t : RT) (N : Nat → Prop) (b : Nat), RfN N w t b → RfR w t b
  | .no, N, b, h => h
  | .bucket L, N, b, h => by
    obtain ⟨f, A, c, h1, h0, h2, h3, h4, h5, h6⟩ := h
    exact ⟨f, A, c, h1, h2, h3, h4⟩
  | .inner P K, N, b, h => by
    obtain ⟨f, h1, h0, h2, h2', h3⟩ := h
    refine ⟨f, h1, h2, fun c hc => ?_⟩
    rcases h3 c hc with h | h | ⟨h4, kb, h5, h6, h7, h8⟩
    · exact .inl h
    · exact .inr (.inl h)
    · exact .inr (.inr ⟨h4, kb, h5, h6, h7, RfN.rf (K c) _ kb h8⟩)
/-- other blocks may be named -/
theorem RfN.less {w : World} : ∀ (t : RT) (N N' : Nat → Prop) (hN : ∀ x, N' x → N x ∨ w.heap.size ≤ x) (b : Nat), RfN N w t b → RfN N' w t b
  | .no, N, N', hN, b, h => h
  | .bucket L, N, N', hN, b, h => by
    obtain ⟨f, A, c, h1, h0, h2, h3, h4, h5, h6⟩ := h
    refine ⟨f, A, c, h1, fun h => ?_, h2, h3, h4, fun a ha => ⟨fun hx => ?_, (h5 a ha).2⟩, h6⟩
    · rcases hN _ h with h | h
      · exact h0 h
      · have := h1.lt; omega
    · rcases hN _ hx with h | h
      · exact (h5 a ha).1 h
      · have := (h5 a ha).2; omega
  | .inner P K, N, N', hN, b, h => by
    obtain ⟨f, h1, h0, h2, h2', h3⟩ := h
    refine ⟨f, h1, fun h => ?_, h2, h2', fun c hc => ?_⟩
    · rcases hN _ h with h | h
      · exact h0 h
      · have := h1.lt; omega
    rcases h3 c hc with h | h | ⟨h4, kb, h5, h6, h7, h8⟩
    · exact .inl h
    · exact .inr (.inl h)
    · refine .inr (.inr ⟨h4, kb, h5, h6, h7, RfN.less (K c) _ _ (fun x hx => ?_) kb h8⟩)
      rcases hx with hx | hx
      · rcases hN x hx with h | h
        · exact .inl (.inl h)
        · exact .inr h
      · exact .inl (.inr hx)
theorem RfN.lt {w : World} {N : Nat → Prop} {t : RT} {b : Nat} (h : RfN N w t b) : b < w.heap.size := by
  cases t with
  | no => exact h.elim
  | bucket L => obtain ⟨f, A, c, h1, _⟩ := h; exact h1.lt
  | inner P K => obtain ⟨f, h1, _⟩ := h; exact h1.lt
theorem RfN.opt {w : World} {N : Nat → Prop} {t : RT} {b : Nat} (h : RfN N w t b) : t.opt = some t := by
  cases t with
  | no => exact h.elim
  | bucket L => rfl
  | inner P K => rfl
theorem TrieN.rf {H : ByteArray → Nat} {w : World} : ∀ (n : Nat) (N : Nat → Prop) (l b : Nat) (ps : List Pr), (n = 0 → ps ≠ []) → TrieN H N w n l b ps → RfN N w (treeOf H n l ps) b
  | 0, N, l, b, ps, hp, h => by
    obtain ⟨f, A, c, h1, h2, h3, h4, h5, h6, h7⟩ := h
    cases ps with
    | nil => exact absurd rfl (hp rfl)
    | cons p r =>
      obtain ⟨g, off, e, c0, -⟩ := h5 0 p rfl
      refine ⟨f, A, c, h1, h2, h3, h4, h5, fun a ha => ⟨h6 a ha, ?_⟩, h7, fun e' => by rw [e'] at e; cases e⟩
      rw [ha] at e
      obtain rfl := Option.some.inj e
      exact World.block_lt_of_cell? w _ c0
  | n + 1, N, l, b, ps, hp, h => by
    obtain ⟨f, h1, h2, h3, h3', h4⟩ := h
    refine ⟨f, h1, h2, h3, h3', fun c hc => ?_⟩
    have hs := h4 c hc
    rw [kids_opt]
    unfold SlotR at hs
    match hq : sub H l c ps, hs with
    | [], hs => exact .inl ⟨by show onep (sub H l c ps) = _; rw [hq]; rfl, rfl, hs⟩
    | [p], hs => exact .inr (.inl ⟨p, by show onep (sub H l c ps) = _; rw [hq]; rfl, rfl, hs.1, hs.2.1, hs.2.2⟩)
    | x :: y :: r, hs =>
      obtain ⟨h5, kb, h6, h7⟩ := hs
      have e : many (sub H l c ps) = some (x :: y :: r) := many_some.2 ⟨hq, by rw [hq]; simp⟩
      refine .inr (.inr ⟨by show onep (sub H l c ps) = _; rw [hq]; rfl, kb, ?_, h5, h6, ?_⟩)
      · simp only [e]; rfl
      · simp only [e]
        exact TrieN.rf n _ (l + 1) kb _ (fun _ h => by cases h) h7
section
variable {w : World} {N : Nat → Prop} {P : Nat → Option Pr} {K : Nat → RT} {T c : Nat}
theorem kid_set {u : RT} {k i : Nat} {v : Value} (h : RfN (fun x => N x ∨ x = T) w u k) : RfN (fun x => N x ∨ x = T) (w.setCell ⟨T, i, none⟩ v) u k :=
  RfN.keepN (by simp) u _ (fun b hb hn => Below.heap_setCell w _ _ _ fun e => hn (.inr e)) k h
theorem RfN.setPair (h : RfN N w (.inner P K) T) (p : Pr) (hc : c < 32) :
    RfN N (((w.setCell ⟨T, 2 + c, none⟩ (.int .i64 1)).setCell ⟨T, 34 + c * 2, none⟩ (.string p.1)).setCell ⟨T, 34 + c * 2 + 1, none⟩ (.string p.2)) (.inner (setP P c (some p)) (setK K c .no)) T := by
  obtain ⟨f, h1, h0, h2, h2', h3⟩ := h
  refine ⟨upd (upd (upd f (2 + c) (.int .i64 1)) (34 + c * 2) (.string p.1)) (34 + c * 2 + 1) (.string p.2), ((h1.set _ _).set _ _).set _ _, h0, ?_, ?_, fun d hd => ?_⟩
  · unfold upd; rw [if_neg (by omega), if_neg (by omega), if_neg (by omega)]; exact h2
  · unfold upd; rw [if_neg (by omega), if_neg (by omega), if_neg (by omega)]; exact h2'
  · unfold setP setK
    by_cases e : d = c
    · subst e
      rw [if_pos rfl, if_pos rfl]
      refine .inr (.inl ⟨p, rfl, rfl, ?_, ?_, ?_⟩)
      · unfold upd; rw [if_neg (by omega), if_neg (by omega), if_pos rfl]
      · unfold upd; rw [if_neg (by omega), if_pos rfl]
      · unfold upd; rw [if_pos rfl]
    · rw [if_neg e, if_neg e]
      have e1 : ∀ i, i ≠ 2 + c → i ≠ 34 + c * 2 → i ≠ 34 + c * 2 + 1 → upd (upd (upd f (2 + c) (.int .i64 1)) (34 + c * 2) (.string p.1)) (34 + c * 2 + 1) (.string p.2) i = f i := fun i a1 a2 a3 => by
        unfold upd; rw [if_neg a3, if_neg a2, if_neg a1]
      rw [e1 _ (by omega) (by omega) (by omega), e1 _ (by omega) (by omega) (by omega), e1 _ (by omega) (by omega) (by omega), e1 _ (by omega) (by omega) (by omega)]
      rcases h3 d hd with h | h | ⟨h4, kb, h5, h6, h7, h8⟩
      · exact .inl h
      · exact .inr (.inl h)
      · exact .inr (.inr ⟨h4, kb, h5, h6, h7, kid_set (kid_set (kid_set h8))⟩)
theorem RfN.clear (h : RfN N w (.inner P K) T) (hc : c < 32) : RfN N (w.setCell ⟨T, 2 + c, none⟩ (.int .i64 0)) (.inner (setP P c none) (setK K c .no)) T := by
  obtain ⟨f, h1, h0, h2, h2', h3⟩ := h
  refine ⟨upd f (2 + c) (.int .i64 0), h1.set _ _, h0, ?_, ?_, fun d hd => ?_⟩
  · unfold upd; rw [if_neg (by omega)]; exact h2
  · unfold upd; rw [if_neg (by omega)]; exact h2'
  · unfold setP setK
    by_cases e : d = c
    · subst e
      rw [if_pos rfl, if_pos rfl]
      exact .inl ⟨rfl, rfl, by unfold upd; rw [if_pos rfl]⟩
    · rw [if_neg e, if_neg e]
      have e1 : ∀ i, i ≠ 2 + c → upd f (2 + c) (.int .i64 0) i = f i := fun i a1 => by unfold upd; rw [if_neg a1]
      rw [e1 _ (by omega), e1 _ (by omega), e1 _ (by omega), e1 _ (by omega)]
      rcases h3 d hd with h | h | ⟨h4, kb, h5, h6, h7, h8⟩
      · exact .inl h
      · exact .inr (.inl h)
      · exact .inr (.inr ⟨h4, kb, h5, h6, h7, kid_set h8⟩)
theorem RfN.setKid {u : RT} {k : Nat} (h : RfN N w (.inner P K) T) (hc : c < 32) (hk : RfN (fun x => N x ∨ x = T) w u k) :
    RfN N ((w.setCell ⟨T, 2 + c, none⟩ (.int .i64 2)).setCell ⟨T, 98 + c, none⟩ (.pointer (some ⟨k, 0, none⟩))) (.inner (setP P c none) (setK K c u)) T := by
  obtain ⟨f, h1, h0, h2, h2', h3⟩ := h
  refine ⟨upd (upd f (2 + c) (.int .i64 2)) (98 + c) (.pointer (some ⟨k, 0, none⟩)), (h1.set _ _).set _ _, h0, ?_, ?_, fun d hd => ?_⟩
  · unfold upd; rw [if_neg (by omega), if_neg (by omega)]; exact h2
  · unfold upd; rw [if_neg (by omega), if_neg (by omega)]; exact h2'
  · unfold setP setK
    by_cases e : d = c
    · subst e
      rw [if_pos rfl, if_pos rfl]
      refine .inr (.inr ⟨rfl, k, hk.opt, ?_, ?_, kid_set (kid_set hk)⟩)
      · unfold upd; rw [if_neg (by omega), if_pos rfl]
      · unfold upd; rw [if_pos rfl]; rfl
    · rw [if_neg e, if_neg e]
      have e1 : ∀ i, i ≠ 2 + c → i ≠ 98 + c → upd (upd f (2 + c) (.int .i64 2)) (98 + c) (.pointer (some ⟨k, 0, none⟩)) i = f i := fun i a1 a2 => by
        unfold upd; rw [if_neg a2, if_neg a1]
      rw [e1 _ (by omega) (by omega), e1 _ (by omega) (by omega), e1 _ (by omega) (by omega), e1 _ (by omega) (by omega)]
      rcases h3 d hd with h | h | ⟨h4, kb, h5, h6, h7, h8⟩
      · exact .inl h
      · exact .inr (.inl h)
      · exact .inr (.inr ⟨h4, kb, h5, h6, h7, kid_set (kid_set h8)⟩)
/-- a new node of nothing -/
theorem RfN.new (hN : ∀ x, N x → x < w.heap.size) : RfN N (w.alloc (.cells (rcs (rb0 false (.slice none 0 0))).toArray 60)) (.inner (fun _ => none) (fun _ => .no)) w.heap.size :=
  ⟨_, RB.new w _, fun h => Nat.lt_irrefl _ (hN _ h), rfl, rfl, fun c hc => .inl ⟨rfl, rfl, by unfold rb0; rw [if_neg (by omega), if_neg (by omega), if_pos (by omega)]⟩⟩
end
end Go.Proofs.YtchimfgbdfmegaaGreat
/- The reference's All, Sorted, Canon. -/
namespace Go.Proofs.YtchimfgbdfmegaaGreat
open Go.RowKit Go.Lib
set_option linter.unusedVariables false
set_option linter.unusedSimpArgs false
set_option maxRecDepth 100000
attribute [local irreducible] cnt
/-- a row of pairs that can be read is appended to a row of one's own -/
theorem wpList_appPr {ops : Array Oper} {rest : List Oper} {o : Oper} {a : Act} {Q : Exit → Act → World → Prop} (w : World) (hgd : o.guard = none) (sl x : Operand)
    (ho : o.op = .call { callee := .builtin .append, args := #[sl, x], argTypes := #[30, 30] }) (base : Nat) (v : Value) (A : Option Addr) (c : Nat) (L M : List Pr) (hs : a.eval sl = v) (hx : a.eval x = .slice A M.length c) (hv : OwnR base w v L) (hR : Rd w A M) (hA : A = none → c = 0) (hl : L.length + M.length ≤ 1000000) (hb : base ≤ w.heap.size)
    (h : ∀ u w', OwnR base w' u (L ++ M) → w.grownBy w' v.ownBlock → wpList Tryz.prog ops Q rest (a.put o.dst u) w') : wpList Tryz.prog ops Q (o :: rest) a w := by
  obtain ⟨i0, hi, hz0, hz1, hz2⟩ := info_parts info40
  cases A with
  | none =>
    have : M = [] := by
      cases M with
      | nil => rfl
      | cons p r => obtain ⟨g, off, e, -⟩ := hR 0 p rfl; cases e
    subst this
    obtain rfl := hA rfl
    refine wpList_append_own_none hgd sl x 30 ho base 55 i0 2 Tryz.underlying30 hi v L.length (flat L) hs hv hx ?_
    exact h v w (by rw [List.append_nil]; exact hv) ⟨rfl, rfl, rfl, Nat.le_refl _, fun _ _ _ => rfl⟩
  | some ad =>
    refine wpList_append_own w hgd sl x 30 ho base 55 i0 _ 2 32 Tryz.underlying30 hi hz0 hz1 hz2 (by simp [Value.cells]) (by decide) v L.length (flat L) hs hv ad M.length c (flat M) hx (flat_length M) (fun j u hj => ?_) (flat_one M) (by unfold maxLen; omega) (by omega) hb ?_
    · have hjl := (List.getElem?_eq_some_iff.1 hj).1
      rw [flat_length] at hjl
      obtain ⟨k, hk⟩ : ∃ k, k = j / 2 := ⟨_, rfl⟩
      have hkl : k < M.length := by omega
      have hf := flat_get M k _ (List.getElem?_eq_getElem hkl)
      obtain ⟨g, off, e, c0, c1⟩ := hR k _ (List.getElem?_eq_getElem hkl)
      obtain rfl := Option.some.inj e
      by_cases ev : j % 2 = 0
      · obtain rfl : j = k * 2 := by omega
        rw [hf.1] at hj
        rw [← Option.some.inj hj]
        simpa [Addr.add_lit] using c0
      · obtain rfl : j = k * 2 + 1 := by omega
        rw [hf.2] at hj
        rw [← Option.some.inj hj]
        simpa [Addr.add_lit, Nat.add_assoc] using c1
    · intro u w' hown hg _
      refine h u w' ?_ hg
      unfold OwnR
      rw [List.length_append, flat_append]
      exact hown
theorem OwnR.rd0 {base : Nat} {w : World} {v : Value} {xs : List Pr} (h : OwnR base w v xs) : ∃ A c, v = .slice A xs.length c ∧ Rd w A xs ∧ (A = none → c = 0) := by
  obtain ⟨A, c, rfl, hR⟩ := h.rd
  refine ⟨A, c, rfl, hR, fun e => ?_⟩
  subst e
  rcases h.2 with ⟨h1, _⟩ | ⟨g, cap, cur, h1, _⟩
  · simp at h1; exact h1.2
  · simp at h1
/-- what All answers -/
def AllP (L : List Pr) (w : World) (e : Ending) (w' : World) : Prop := ∃ v, e = .returned v ∧ OwnR w.heap.size w' v L ∧ Below w.heap.size w w'
set_option maxHeartbeats 16000000 in
/-- a loop over the chunks of a node, of which some have pairs, some have kids -/
theorem all_node (l b n c : Nat) (f : Nat → Value) (A : Option Addr) (L M : List Pr) (P : Nat → Option Pr) (G : Nat → List Pr) (w : World) (hRB : RB w b f) (h1 : f 1 = .slice A L.length c) (hA : A = none → c = 0) (hR : Rd w A L) (hl : l ≤ 13)
    (hf : ∀ j, j < 32 → (P j = none ∧ G j = [] ∧ (f (2 + j) = .int .i64 0 ∨ (f (2 + j) = .int .i64 2 ∧ l = 13))) ∨ (∃ p, P j = some p ∧ G j = [] ∧ f (2 + j) = .int .i64 1 ∧ f (34 + j * 2) = .string p.1 ∧ f (34 + j * 2 + 1) = .string p.2) ∨
      (P j = none ∧ f (2 + j) = .int .i64 2 ∧ l < 13 ∧ ∃ kb, f (98 + j) = .pointer (some ⟨kb, 0, none⟩) ∧ ∀ w', Below w.heap.size w w' → Calls Tryz.prog 41 #[.pointer (some ⟨kb, 0, none⟩), .int .i64 (l + 1 : Nat)] w' (AllP (G j) w')))
    (hM : M = L ++ (List.range 32).flatMap fun j => (P j).toList ++ G j) (hn : M.length ≤ 900000) :
    Calls Tryz.prog 41 #[.pointer (some ⟨b, 0, none⟩), .int .i64 l] w (AllP M w) := by
  obtain ⟨i0, hi, hz0, hz1, hz2⟩ := info_parts info40
  have HF := Lib.hid hf
  have HM := Lib.hid hM
  have hlen : ∀ j, j ≤ 32 → (L ++ (List.range j).flatMap fun j => (P j).toList ++ G j).length ≤ M.length := fun j hj => by
    rw [hM]
    obtain ⟨k, hk⟩ : ∃ k, 32 = j + k := ⟨32 - j, by omega⟩
    rw [hk, List.range_add, List.flatMap_append, List.length_append, List.length_append, List.length_append]
    omega
  have HL := Lib.hid hlen
  have c1 : w.cell? ⟨b, 1, none⟩ = some (.slice A L.length c) := by rw [hRB.cell 1 (by omega), h1]
  have hBl := (Below.refl _ w).alloc (Nat.le_refl _) (.cells #[] 55)
  have hE : OwnR w.heap.size (w.alloc (.cells #[] 55)) (.slice (some ⟨w.heap.size, 0, none⟩) 0 0) [] := ⟨rfl, .inr ⟨w.heap.size, 0, #[], rfl, Nat.le_refl _, heap_alloc_new w _, Nat.le_refl _, by unfold maxLen; omega, rfl, rfl⟩⟩
  have c1 : (w.alloc (.cells #[] 55)).cell? ⟨b, 1, none⟩ = some (.slice A L.length c) := (hBl.cell (World.block_lt_of_cell? w _ c1)).trans c1
  have HR := Lib.hid (hR.below hBl)
  have HB := Lib.hid hRB
  have L13 : decide ((l : Int) < 13) = decide (l < 13) := by rw [decide_eq_decide]; omega
  have L14 : IntKind.i64.wrap ((l : Int) + 1) = ((l + 1 : Nat) : Int) := by rw [IntWalk.i64_in _ (by omega)]; omega
  have HE := Lib.hid hE
  have hB0 := Lib.hid hBl
  clear hf hM hlen hR hRB h1 hE hBl
  go_enter Tryz.func41, Tryz.ntmps41
  go_wp2_with (at_builtin; refine wpList_appPr _ rfl _ _ rfl w.heap.size (.slice (some ⟨w.heap.size, 0, none⟩) 0 0) A c [] L rfl rfl HE.out HR.out hA (by have := HL.out 0 (by omega); simp at this ⊢; omega) hB0.out.size ?_; intro v0 wa hown hg)
  have hB := hB0.out.grown hg hB0.out.size (by intro k hk; cases hk; exact Nat.le_refl _)
  rw [List.nil_append] at hown
  clear c1 hg HE HR hB0
  go_wp2_with fail
  go_loopw [5, 6] (fun v5 v6 wr => ∃ j : Nat, j ≤ 32 ∧ v6 = .int .i64 j ∧ OwnR w.heap.size wr v5 (L ++ (List.range j).flatMap fun j => (P j).toList ++ G j) ∧ Below w.heap.size w wr) (fun v5 v6 wr => 32 - (intOf v6).toNat)
  case atStart => exact ⟨0, by omega, rfl, by simpa using hown, hB⟩
  case round =>
    clear hown hB
    obtain ⟨j, hj, rfl, hown, hB⟩ := hrel
    obtain ⟨X, hX⟩ : ∃ X, X = L ++ (List.range j).flatMap fun j => (P j).toList ++ G j := ⟨_, rfl⟩
    rw [← hX] at hown
    have hXl : X.length ≤ 900000 := by rw [hX]; exact Nat.le_trans (HL.out j hj) hn
    have HX := Lib.hid hX
    clear hX
    by_cases hlt : j < 32
    · have L1 : (j : Int) < 32 := by omega
      have L2 : IntKind.i64.wrap ((j : Int) + 1) = ((j + 1 : Nat) : Int) := by rw [IntWalk.i64_in _ (by omega)]; omega
      have hNX : (L ++ (List.range (j + 1)).flatMap fun j => (P j).toList ++ G j) = X ++ ((P j).toList ++ G j) := by rw [HX.out, List.range_succ, List.flatMap_append, ← List.append_assoc]; simp
      have hNl := HL.out (j + 1) (by omega)
      rw [hNX] at hNl
      have hBL := HB.out.below hB
      have z2 := hBL.cell (2 + j) (by omega)
      obtain ⟨A5, c5, rfl, hR5⟩ := hown.rd
      rcases HF.out j hlt with ⟨e1, e2, h⟩ | ⟨p, e1, e2, h3, h4, h5⟩ | ⟨e1, h3, hl13, kb, h4, hC⟩
      · rw [e1, e2] at hNX hNl
        have HNX := Lib.hid (by rw [hNX]; simp : (L ++ (List.range (j + 1)).flatMap fun j => (P j).toList ++ G j) = X)
        clear hNX hNl e1 e2 hR5 hBL
        rcases h with h | ⟨h, rfl⟩
        · rw [h] at z2
          clear h
          go_wp2_with fail
          exact ⟨⟨j + 1, by omega, by go_num, by rw [HNX.out]; exact hown, hB⟩, by simp [intOf]; omega⟩
        · rw [h] at z2
          clear h
          go_wp2_with fail
          exact ⟨⟨j + 1, by omega, by go_num, by rw [HNX.out]; exact hown, hB⟩, by simp [intOf]; omega⟩
      · rw [h3] at z2
        have z3 := hBL.cell (34 + j * 2) (by omega)
        have z4 := hBL.cell (34 + j * 2 + 1) (by omega)
        rw [h4] at z3
        rw [h5] at z4
        rw [e1, e2] at hNX hNl
        have HNX := Lib.hid (by rw [hNX]; simp : (L ++ (List.range (j + 1)).flatMap fun j => (P j).toList ++ G j) = X ++ [p])
        have hl1 := hNl
        simp at hl1
        clear hNX hNl e1 e2 h3 h4 h5 hR5
        have HBL := Lib.hid hBL
        have HO := Lib.hid hown
        have HBB := Lib.hid hB
        clear hBL hown hB
        go_upto_region 7 with (at_builtin; refine wpList_append_own _ rfl _ _ 30 rfl w.heap.size 55 i0 _ 2 32 Tryz.underlying30 hi hz0 hz1 hz2 rfl (by decide) _ _ _ rfl ((show World.ownsRow _ _ _ _ _ _ _ from HO.out).alloc _) ⟨wr.heap.size, 0, none⟩ 1 1 [.string p.1, .string p.2] rfl rfl (cell_two_new _ _ _ _) (flat_cell p) (by unfold maxLen; omega) (by omega) (by have := HBB.out.size; simp; omega) ?_; intro v' wb hown' hgrow hnil)
        have hB5 : Below w.heap.size w wb := (HBB.out.alloc HBB.out.size _).grown hgrow (by have := HBB.out.size; simp; omega) (own_ge HO.out)
        have z2 : wb.cell? ⟨b, 2 + j, none⟩ = some (.int .i64 1) := by rw [(HB.out.below hB5).cell (2 + j) (by omega)]; exact congrArg some (Option.some.inj ((HBL.out.cell (2 + j) (by omega)).symm.trans z2))
        have hown5 := OwnR.snoc hown'
        clear hgrow hnil HBB HO HBL z3 z4 hown'
        go_wp2_with fail
        exact ⟨⟨j + 1, by omega, by go_num, by rw [HNX.out]; exact hown5, hB5⟩, by simp [intOf]; omega⟩
      · rw [h3] at z2
        have z3 := hBL.cell (98 + j) (by omega)
        rw [h4] at z3
        rw [e1] at hNX hNl
        have HNX := Lib.hid (by rw [hNX]; simp : (L ++ (List.range (j + 1)).flatMap fun j => (P j).toList ++ G j) = X ++ G j)
        have hl1 := hNl
        simp at hl1
        have kC := hC wr hB
        have D1 : decide (l < 13) = true := by simp; exact hl13
        have D2 : ((l : Nat) : Int) < 13 := by omega
        clear hNX hNl e1 h3 h4 hC hBL hR5
        unfold AllP at kC
        go_wp2_with fail
        refine kC.mono ?_
        rintro e w1 ⟨v1, rfl, ho1, hB1⟩
        obtain ⟨A1, c1', rfl, hR1, hA1⟩ := ho1.rd0
        have HO := Lib.hid (hown.below' hB1)
        have HBB := Lib.hid (hB.trans (hB1.mono hB.size))
        have HR1 := Lib.hid hR1
        clear kC hown hB hB1 ho1 hR1 z2 z3
        go_wp2_with (at_builtin; refine wpList_appPr _ rfl _ _ rfl w.heap.size (.slice A5 X.length c5) A1 c1' X (G j) rfl rfl HO.out HR1.out hA1 (by omega) HBB.out.size ?_; intro v' wb hown' hgrow)
        have hB5 := HBB.out.grown hgrow HBB.out.size (own_ge HO.out)
        exact ⟨⟨j + 1, by omega, by go_num, by rw [HNX.out]; exact hown', hB5⟩, by simp [intOf]; omega⟩
    · obtain rfl : j = 32 := by omega
      have L1 : ¬ ((32 : Nat) : Int) < 32 := by omega
      have e : M = X := HM.out.trans HX.out.symm
      subst e
      have HO := Lib.hid hown
      have HBB := Lib.hid hB
      clear hown hB
      go_wp2_with fail
      go_ret
      exact ⟨_, rfl, HO.out, HBB.out⟩
/-- the reference's All of any tree -/
theorem all_any : ∀ (d l : Nat) (t : RT) (N : Nat → Prop) (b : Nat) (w : World), d + l = 13 → RfN N w t b → (allR d t).length ≤ 900000 → Calls Tryz.prog 41 #[.pointer (some ⟨b, 0, none⟩), .int .i64 l] w (AllP (allR d t) w) := by
  intro d
  induction d with
  | zero =>
    intro l t N b w hl h hn
    cases t with
    | no => exact h.elim
    | bucket L =>
      obtain ⟨f, A, c, h1, h0, h2, h3, h4, h5, h6, h7⟩ := h
      exact all_node l b 0 c f A L L (fun _ => none) (fun _ => []) w h1 h3 h7 h4 (by omega) (fun j hj => .inl ⟨rfl, rfl, .inl (h6 j hj)⟩) (by simp) hn
    | inner P K =>
      obtain ⟨f, h1, h0, h2, h2', h3⟩ := h
      refine all_node l b 0 0 f none [] _ P (fun _ => []) w h1 h2' (fun _ => rfl) (fun j p hj => by simp at hj) (by omega) (fun j hj => ?_) (by simp [allR]) hn
      rcases h3 j hj with ⟨a, b', c⟩ | ⟨p, a, b', c, d, e⟩ | ⟨a, kb, b', c, d, e⟩
      · exact .inl ⟨a, rfl, .inl c⟩
      · exact .inr (.inl ⟨p, a, rfl, c, d, e⟩)
      · exact .inl ⟨a, rfl, .inr ⟨c, by omega⟩⟩
  | succ d ih =>
    intro l t N b w hl h hn
    cases t with
    | no => exact h.elim
    | bucket L =>
      obtain ⟨f, A, c, h1, h0, h2, h3, h4, h5, h6, h7⟩ := h
      exact all_node l b 0 c f A L L (fun _ => none) (fun _ => []) w h1 h3 h7 h4 (by omega) (fun j hj => .inl ⟨rfl, rfl, .inl (h6 j hj)⟩) (by simp) hn
    | inner P K =>
      obtain ⟨f, h1, h0, h2, h2', h3⟩ := h
      refine all_node l b 0 0 f none [] _ P (fun j => allR d (K j)) w h1 h2' (fun _ => rfl) (fun j p hj => by simp at hj) (by omega) (fun j hj => ?_) (by simp [allR]) hn
      rcases h3 j hj with ⟨a, b', c⟩ | ⟨p, a, b', c, d', e⟩ | ⟨a, kb, b', c, d', e⟩
      · exact .inl ⟨a, by rw [no_of_opt b']; simp [allR], .inl c⟩
      · exact .inr (.inl ⟨p, a, by rw [no_of_opt b']; simp [allR], c, d', e⟩)
      · refine .inr (.inr ⟨a, c, by omega, kb, d', fun w' hb => ?_⟩)
        refine ih (l + 1) (K j) _ kb w' (by omega) (RfN.below _ e hb) ?_
        refine Nat.le_trans ?_ hn
        show _ ≤ ((List.range 32).flatMap fun c => (P c).toList ++ allR d (K c)).length
        rw [List.length_flatMap]
        refine Nat.le_trans ?_ (sum_one_le (f := fun c => ((P c).toList ++ allR d (K c)).length) (c := j) 32 hj)
        simp
end Go.Proofs.YtchimfgbdfmegaaGreat
/- The reference's Sorted. -/
namespace Go.Proofs.YtchimfgbdfmegaaGreat
open Go.RowKit Go.Lib
set_option linter.unusedVariables false
set_option linter.unusedSimpArgs false
set_option maxRecDepth 100000
attribute [local irreducible] cnt
def srt (xs : List Pr) (j : Nat) : List Pr := (xs.take j).foldl putK []
theorem srt_succ {xs : List Pr} {j : Nat} (h : j < xs.length) : srt xs (j + 1) = putK (srt xs j) xs[j] := by
  unfold srt
  rw [List.take_succ_eq_append_getElem h, List.foldl_append]
  rfl
theorem srt_norm (xs : List Pr) : ∀ j, j ≤ xs.length → IsNorm (xs.take j) (srt xs j)
  | 0, _ => norm_nil
  | j + 1, h => by
    rw [srt_succ (by omega), List.take_succ_eq_append_getElem (by omega)]
    exact norm_put _ (srt_norm xs j (by omega))
theorem srt_len (xs : List Pr) : ∀ j, j ≤ xs.length → (srt xs j).length ≤ j
  | 0, _ => by simp [srt]
  | j + 1, h => by
    rw [srt_succ (by omega)]
    have h1 := put_len (ps := srt xs j) (xs[j])
    have h2 := srt_len xs j (by omega)
    omega
theorem srt_mem (xs : List Pr) : ∀ j, j ≤ xs.length → ∀ p ∈ srt xs j, p ∈ xs
  | 0, _, p, hp => by simp [srt] at hp
  | j + 1, h, p, hp => by
    rw [srt_succ (by omega)] at hp
    rcases put_sets.1 hp with rfl | ⟨h1, _⟩
    · exact List.getElem_mem _
    · exact srt_mem xs j (by omega) p h1
set_option maxHeartbeats 16000000 in
theorem sorted_ref (A : Option Addr) (c : Nat) (xs : List Pr) (w : World) (hR : Rd w A xs) (hn : xs.length ≤ 800) (hz : ∀ p ∈ xs, p.1.size ≤ 1000) :
    Calls Tryz.prog 42 #[.slice A xs.length c] w (AllP (srt xs xs.length) w) := by
  have HR := Lib.hid hR
  have HZ := Lib.hid hz
  obtain ⟨n, hnl⟩ : ∃ n, n = xs.length := ⟨_, rfl⟩
  rw [← hnl] at hn ⊢
  have HN := Lib.hid hnl
  clear hR hz hnl
  go_enter Tryz.func42, Tryz.ntmps42
  go_wp2_with fail
  go_loopw [3, 8] (fun v3 vi wr => ∃ j : Nat, j ≤ n ∧ vi = .int .i64 j ∧ OwnR w.heap.size wr v3 (srt xs j) ∧ Below w.heap.size w wr) (fun v3 vi wr => n - (intOf vi).toNat)
  case atStart => exact ⟨0, by omega, rfl, OwnR.nil _ _, Below.refl _ _⟩
  case round =>
    obtain ⟨j, hj, rfl, hown, hB⟩ := hrel
    by_cases hlt : j < n
    · have hlx : j < xs.length := by rw [← HN.out]; exact hlt
      obtain ⟨g, off, rfl, c0, c1⟩ := (HR.out.below hB) j xs[j] (List.getElem?_eq_getElem hlx)
      have L1 : (j : Int) < (n : Int) := by omega
      have L2 : IntKind.i64.wrap ((j : Int) + 1) = ((j + 1 : Nat) : Int) := by rw [IntWalk.i64_in _ (by omega)]; omega
      have HS := Lib.hid (srt_succ hlx)
      have hz1 := HZ.out xs[j] (List.getElem_mem hlx)
      have hsl := srt_len xs j (by omega)
      have hsm : ∀ x ∈ srt xs j, x.1.size ≤ maxLen := fun x hx => Nat.le_trans (HZ.out x (srt_mem xs j (by omega) x hx)) (by unfold maxLen; omega)
      generalize xs[j] = q at *
      generalize srt xs j = Y at *
      go_upto_region 5 with (fail)
      have hBl := (Below.refl _ wr).alloc (Nat.le_refl _) (.cells #[.string q.1, .string q.2] 55)
      have hP := Blk.new wr 55 #[.string q.1, .string q.2]
      have hB := hB.trans (hBl.mono hB.size)
      have hown := hown.below' hBl
      clear hBl c0 c1
      generalize wr.alloc (.cells #[.string q.1, .string q.2] 55) = W3 at *
      generalize wr.heap.size = NP at *
      obtain ⟨A3, c3, rfl, hR3⟩ := hown.rd
      have kr := refPut_any A3 c3 Y q W3 hR3 (by omega) (sized_of hsm) (by unfold maxLen; omega)
      unfold Pr.v at kr
      have a0 : W3.cell? ⟨NP, 0, none⟩ = some (.string q.1) := hP.cell 0
      have a1 : W3.cell? ⟨NP, 1, none⟩ = some (.string q.2) := hP.cell 1
      clear hP hown hR3 hsm
      go_wp2_with fail
      refine kr.mono ?_
      rintro e w4 ⟨v4, rfl, hO4, hB4⟩
      have hO4 := OwnR.base hO4 hB.size
      have hB := hB.trans (hB4.mono hB.size)
      clear kr hB4 a0 a1
      go_wp2_with fail
      exact ⟨⟨j + 1, by omega, by go_num, by rw [HS.out]; exact hO4, hB⟩, by simp [intOf]; omega⟩
    · obtain rfl : j = n := by omega
      have G : ¬ ((j : Int) < (j : Int)) := by omega
      have HO := Lib.hid hown
      have HBB := Lib.hid hB
      clear hown hB
      go_wp2_with fail
      go_ret
      exact ⟨_, rfl, HO.out, HBB.out⟩
theorem srt_all (xs : List Pr) : IsNorm xs (srt xs xs.length) := by
  have := srt_norm xs xs.length (Nat.le_refl _)
  rwa [List.take_length] at this
end Go.Proofs.YtchimfgbdfmegaaGreat
/- The reference's Canon. -/
namespace Go.Proofs.YtchimfgbdfmegaaGreat
open Go.RowKit Go.Lib
set_option linter.unusedVariables false
set_option linter.unusedSimpArgs false
set_option maxRecDepth 100000
attribute [local irreducible] cnt
theorem srt_short {xs : List Pr} (h : Short xs) : Short (srt xs xs.length) := fun p hp => h p (srt_mem xs _ (Nat.le_refl _) p hp)
set_option maxHeartbeats 16000000 in
theorem refCanon_any (k0 k1 m : Int) (h0 : U64 k0) (h1 : U64 k1) (N : Nat → Prop) (t : RT) (b : Nat) (w : World) (h : RfN N w t b) (hg : GoodR t) (hs : SmallR t) (hsh : Short (allR 13 t)) (hn : (allR 13 t).length ≤ 700) (hL : (encR 14 t).length ≤ 1000000000) :
    Calls Tryz.prog 19 #[.agg #[.int .u64 k0, .int .u64 k1, .int .u64 m], .pointer (some ⟨b, 0, none⟩)] w (RetBool (rightB (hz k0 k1 m) 13 t []) w) := by
  have hB0 := (Below.refl _ w).alloc (Nat.le_refl _) (.cells #[.int .u64 k0, .int .u64 k1, .int .u64 m] 40)
  have b1 := Blk.new w 40 #[.int .u64 k0, .int .u64 k1, .int .u64 m]
  have ho := h.opt
  obtain ⟨A, hA⟩ : ∃ A, A = allR 13 t := ⟨_, rfl⟩
  rw [← hA] at hsh hn
  have hsS := srt_short hsh
  have hlS := srt_len A A.length (Nat.le_refl _)
  have hc := canon_is (hz k0 k1 m) t (srt A A.length) ho hg hs (by rw [← hA]; exact srt_all A) hsS.mid (by omega)
  rw [← hA] at hc
  have eS : encB (hz k0 k1 m) 13 0 (srt A A.length) = encR 14 (treeOf (hz k0 k1 m) 13 0 (srt A A.length)) := (encR_tree _ _ _ _ _ (by omega)).symm
  rw [eS] at hc
  clear eS
  have kAll := all_any 13 0 t N b _ rfl (RfN.below t h hB0) (by rw [← hA]; omega)
  rw [← hA] at kAll
  have hF := RfN.rf t N b h
  obtain ⟨r, hr⟩ : ∃ r, r = rightB (hz k0 k1 m) 13 t [] := ⟨_, rfl⟩
  rw [← hr] at hc ⊢
  have kSrt := fun A' c' w' (hR : Rd w' A' A) => sorted_ref A' c' A w' hR (by omega) (fun p hp => Nat.le_trans (hsh p hp).1 (by omega))
  have hF := RfR.below hB0 _ _ hF
  unfold AllP at kAll kSrt
  clear h hg hr hA ho
  go_enter Tryz.func19, Tryz.ntmps19
  go_upto_region 1 with (fail)
  generalize w.alloc (.cells #[.int .u64 k0, .int .u64 k1, .int .u64 m] 40) = W at *
  obtain ⟨N3, hN3⟩ : ∃ N3, N3 = w.heap.size := ⟨_, rfl⟩
  rw [← hN3] at b1 ⊢
  clear hN3
  go_wp2_with fail
  refine kAll.mono ?_
  rintro e w1 ⟨v1, rfl, ho1, hB1⟩
  obtain ⟨Aa, ca, rfl, hRa⟩ := ho1.rd
  have hH := b1.below hB1
  have hB := hB0.trans (hB1.mono hB0.size)
  have hF := RfR.below hB1 _ _ hF
  have kS := kSrt _ ca _ hRa
  clear kAll b1 hB1 hB0 ho1 hRa kSrt
  go_wp2_with fail
  refine kS.mono ?_
  rintro e w2 ⟨v2, rfl, ho2, hB2⟩
  obtain ⟨Ax, cx, rfl, hX⟩ := ho2.rd
  have hH := hH.below hB2
  have hB := hB.trans (hB2.mono hB.size)
  have hF := RfR.below hB2 _ _ hF
  generalize srt A A.length = S at *
  have hmx : ∀ x ∈ S, x.1.size ≤ 1000 := fun x hx => Nat.le_trans (hsS x hx).1 (by omega)
  have kRef := fun w' (hR : Rd w' Ax S) => refTrie_any k0 k1 m Ax cx S w' h0 h1 hR (by omega) hmx
  have kEnc1 := fun w' (hf : RfR w' t b) => refOfR_any 14 0 t b w' rfl (by omega) hf (SmallR.fair _ hs) hL
  have hSs : SmallR (treeOf (hz k0 k1 m) 13 0 S) := tree_small _ 13 0 S hsS.mid (by omega)
  have eX := enc_small (H := hz k0 k1 m) hsS (by omega)
  have kEnc2 := fun w' b (hf : RfR w' (treeOf (hz k0 k1 m) 13 0 S) b) => refOfR_any 14 0 _ b w' rfl (by omega) hf hSs.fair eX
  have kEq := fun w' base base' v v' (ha : OwnB base w' v (encR 14 t)) (hb : OwnB base' w' v' (encR 14 (treeOf (hz k0 k1 m) 13 0 S))) => refSameB_any base base' v v' _ _ w' ha hb hL
  have hdr : Below w2.heap.size w2 w2.drew := (Below.refl _ w2).drew
  have hS0 : (fun w' : World => w'.cell? ⟨N3, 0, none⟩ = some (.int .u64 k0) ∧ w'.cell? ⟨N3, 1, none⟩ = some (.int .u64 k1) ∧ w'.cell? ⟨N3, 2, none⟩ = some (.int .u64 m)) w2.drew := ⟨hH.cell 0, hH.cell 1, hH.cell 2⟩
  replace hX := hX.below hdr
  replace hF := RfR.below hdr _ _ hF
  replace hB := hB.drew
  clear kS hB2 ho2 hH hdr hSs eX hmx hsS hsh hs
  generalize treeOf (hz k0 k1 m) 13 0 S = ty at *
  generalize decide (encR 14 t = encR 14 ty) = D at *
  obtain ⟨la, hla⟩ : ∃ la, la = A.length := ⟨_, rfl⟩
  obtain ⟨lx, hlx⟩ : ∃ lx, lx = S.length := ⟨_, rfl⟩
  rw [← hla, ← hlx] at hc
  rw [← hla] at hn ⊢
  rw [← hlx] at hlS kRef ⊢
  clear hla hlx
  by_cases e : lx = la
  · obtain rfl : r = D := by rw [hc]; simp [e]
    subst e
    clear hc
    have G : ((lx : Int) == (lx : Int)) = true := by simp
    go_upto_region 3 with (fail)
    refine wp_region_held_drew (S := (fun w' : World => w'.cell? ⟨N3, 0, none⟩ = some (.int .u64 k0) ∧ w'.cell? ⟨N3, 1, none⟩ = some (.int .u64 k1) ∧ w'.cell? ⟨N3, 2, none⟩ = some (.int .u64 m))) (by kernel_rfl) hS0 ?_
    intro hS
    refine wpAnyH_take (i := 0) (oi := { dst := some 11, op := Go.Op.move (Go.Operand.tmp 6), type := 30, pos := "ref.go:87", after := #[], guard := none }) (v := .slice Ax lx cx) rfl (by kernel_rfl) (by kernel_rfl) (by kernel_rfl) (fun _ _ _ h => h) (Or.inl ⟨by rfl, fun w hSw => ?_⟩) hS ?_
    · go_split_ands
      go_simp
    try simp only [Act.put, List.setIfInBounds_toArray, List.set_cons_zero, List.set_cons_succ]
    refine wpAnyH_take (i := 1) (oi := { dst := some 12, op := Go.Op.call { callee := Go.Callee.builtin Go.Builtin.len, args := #[Go.Operand.tmp 11], argTypes := #[30] }, type := 3, pos := "ref.go:87", after := #[{ on := 0, ground := Go.Ground.data }], guard := none }) (v := .int .i64 lx) rfl (by kernel_rfl) (by kernel_rfl) (by kernel_rfl) (fun _ _ _ h => h) (Or.inl ⟨by rfl, fun w hSw => ?_⟩) hS ?_
    · go_split_ands
      go_simp
    try simp only [Act.put, List.setIfInBounds_toArray, List.set_cons_zero, List.set_cons_succ]
    refine wpAnyH_take (i := 2) (oi := { dst := some 13, op := Go.Op.move (Go.Operand.tmp 5), type := 30, pos := "ref.go:87", after := #[], guard := none }) (v := .slice Aa lx ca) rfl (by kernel_rfl) (by kernel_rfl) (by kernel_rfl) (fun _ _ _ h => h) (Or.inl ⟨by rfl, fun w hSw => ?_⟩) hS ?_
    · go_split_ands
      go_simp
    try simp only [Act.put, List.setIfInBounds_toArray, List.set_cons_zero, List.set_cons_succ]
    refine wpAnyH_take (i := 3) (oi := { dst := some 14, op := Go.Op.call { callee := Go.Callee.builtin Go.Builtin.len, args := #[Go.Operand.tmp 13], argTypes := #[30] }, type := 3, pos := "ref.go:87", after := #[{ on := 2, ground := Go.Ground.data }], guard := none }) (v := .int .i64 lx) rfl (by kernel_rfl) (by kernel_rfl) (by kernel_rfl) (fun _ _ _ h => h) (Or.inl ⟨by rfl, fun w hSw => ?_⟩) hS ?_
    · go_split_ands
      go_simp
    try simp only [Act.put, List.setIfInBounds_toArray, List.set_cons_zero, List.set_cons_succ]
    refine wpAnyH_take (i := 4) (oi := { dst := some 15, op := Go.Op.binOp Go.BinOp.eql 3 (Go.Operand.tmp 12) (Go.Operand.tmp 14) 3, type := 4, pos := "ref.go:87", after := #[{ on := 1, ground := Go.Ground.data }, { on := 3, ground := Go.Ground.data }], guard := none }) (v := .bool true) rfl (by kernel_rfl) (by kernel_rfl) (by kernel_rfl) (fun _ _ _ h => h) (Or.inl ⟨by rfl, fun w hSw => ?_⟩) hS ?_
    · go_split_ands
      go_simp
    try simp only [Act.put, List.setIfInBounds_toArray, List.set_cons_zero, List.set_cons_succ]
    refine wpAnyH_take (i := 5) (oi := { dst := some 16, op := Go.Op.move (Go.Operand.tmp 15), type := 4, pos := "ref.go:87", after := #[{ on := 4, ground := Go.Ground.data }], guard := none }) (v := .bool true) rfl (by kernel_rfl) (by kernel_rfl) (by kernel_rfl) (fun _ _ _ h => h) (Or.inl ⟨by rfl, fun w hSw => ?_⟩) hS ?_
    · go_split_ands
      go_simp
    try simp only [Act.put, List.setIfInBounds_toArray, List.set_cons_zero, List.set_cons_succ]
    refine wpAnyH_take (i := 6) (oi := { dst := some 17, op := Go.Op.move (Go.Operand.tmp 1), type := 37, pos := "ref.go:87", after := #[{ on := 5, ground := Go.Ground.guard }], guard := some (5, true) }) (v := .pointer (some ⟨b, 0, none⟩)) rfl (by kernel_rfl) (by kernel_rfl) (by kernel_rfl) (fun _ _ _ h => h) (Or.inl ⟨by rfl, fun w hSw => ?_⟩) hS ?_
    · go_split_ands
      go_simp
    try simp only [Act.put, List.setIfInBounds_toArray, List.set_cons_zero, List.set_cons_succ]
    refine wpAnyH_take (i := 8) (oi := { dst := some 19, op := Go.Op.load 40 (Go.Operand.tmp 2), type := 40, pos := "ref.go:87", after := #[{ on := 5, ground := Go.Ground.guard }], guard := some (5, true) }) (v := .agg #[.int .u64 k0, .int .u64 k1, .int .u64 m]) rfl (by kernel_rfl) (by kernel_rfl) (by kernel_rfl) (fun _ _ _ h => h) (Or.inl ⟨by rfl, fun w hSw => ?_⟩) hS ?_
    · go_split_ands
      go_simp
    try simp only [Act.put, List.setIfInBounds_toArray, List.set_cons_zero, List.set_cons_succ]
    refine wpAnyH_take (i := 9) (oi := { dst := some 20, op := Go.Op.move (Go.Operand.tmp 6), type := 30, pos := "ref.go:87", after := #[{ on := 5, ground := Go.Ground.guard }], guard := some (5, true) }) (v := .slice Ax lx cx) rfl (by kernel_rfl) (by kernel_rfl) (by kernel_rfl) (fun _ _ _ h => h) (Or.inl ⟨by rfl, fun w hSw => ?_⟩) hS ?_
    · go_split_ands
      go_simp
    try simp only [Act.put, List.setIfInBounds_toArray, List.set_cons_zero, List.set_cons_succ]
    refine wpAnyH_ready (rs := [7]) (by kernel_rfl) (by simp) ?_
    refine AllReadyH.cons (o := { dst := some 18, op := Go.Op.call { callee := Go.Callee.value (Go.Operand.func 12), args := #[Go.Operand.tmp 17, Go.Operand.const (Go.Value.int Go.IntKind.i64 0)], argTypes := #[37, 3] }, type := 34, pos := "ref.go:87", after := #[{ on := 6, ground := Go.Ground.data }, { on := 5, ground := Go.Ground.chain }, { on := 5, ground := Go.Ground.guard }], guard := some (5, true) }) rfl (fun K hK => ?_) AllReadyH.nil
    go_simp
    refine (kEnc1 _ hF).mono ?_
    rintro e wA ⟨v1, rfl, ho1, hBA⟩
    obtain ⟨A1, c1, rfl⟩ := own_formN ho1
    go_wp2_with fail
    have hSn := keepH hS hBA
    refine hK.out _ _ hSn (fun _ => ?_)
    clear hK K hS
    try simp only [Act.put, List.setIfInBounds_toArray, List.set_cons_zero, List.set_cons_succ]
    have hS := hSn
    clear hSn
    have hB := hB.trans (hBA.mono hB.size)
    replace hF := RfR.below hBA _ _ hF
    replace hX := hX.below hBA
    refine wpAnyH_ready (rs := [10]) (by kernel_rfl) (by simp) ?_
    refine AllReadyH.cons (o := { dst := some 21, op := Go.Op.call { callee := Go.Callee.value (Go.Operand.func 13), args := #[Go.Operand.tmp 19, Go.Operand.tmp 20, Go.Operand.const (Go.Value.int Go.IntKind.i64 0)], argTypes := #[40, 30, 3] }, type := 37, pos := "ref.go:87", after := #[{ on := 8, ground := Go.Ground.data }, { on := 9, ground := Go.Ground.data }, { on := 7, ground := Go.Ground.chain }, { on := 5, ground := Go.Ground.guard }], guard := some (5, true) }) rfl (fun K hK => ?_) AllReadyH.nil
    go_simp
    refine (kRef _ hX).mono ?_
    rintro e wC ⟨rb, rfl, hRf, hBC⟩
    go_wp2_with fail
    have hSn := keepH hS hBC
    refine hK.out _ _ hSn (fun _ => ?_)
    clear hK K hS
    try simp only [Act.put, List.setIfInBounds_toArray, List.set_cons_zero, List.set_cons_succ]
    have hS := hSn
    clear hSn
    have hB := hB.trans (hBC.mono hB.size)
    replace ho1 := ho1.below hBC
    refine wpAnyH_ready (rs := [11]) (by kernel_rfl) (by simp) ?_
    refine AllReadyH.cons (o := { dst := some 22, op := Go.Op.call { callee := Go.Callee.value (Go.Operand.func 12), args := #[Go.Operand.tmp 21, Go.Operand.const (Go.Value.int Go.IntKind.i64 0)], argTypes := #[37, 3] }, type := 34, pos := "ref.go:87", after := #[{ on := 10, ground := Go.Ground.data }, { on := 10, ground := Go.Ground.chain }, { on := 5, ground := Go.Ground.guard }], guard := some (5, true) }) rfl (fun K hK => ?_) AllReadyH.nil
    go_simp
    refine (kEnc2 _ _ hRf).mono ?_
    rintro e wD ⟨v2, rfl, ho2, hBD⟩
    obtain ⟨A2, c2, rfl⟩ := own_formN ho2
    go_wp2_with fail
    have hSn := keepH hS hBD
    refine hK.out _ _ hSn (fun _ => ?_)
    clear hK K hS
    try simp only [Act.put, List.setIfInBounds_toArray, List.set_cons_zero, List.set_cons_succ]
    have hS := hSn
    clear hSn
    have hB := hB.trans (hBD.mono hB.size)
    replace ho1 := ho1.below hBD
    refine wpAnyH_ready (rs := [12]) (by kernel_rfl) (by simp) ?_
    refine AllReadyH.cons (o := { dst := some 23, op := Go.Op.call { callee := Go.Callee.value (Go.Operand.func 10), args := #[Go.Operand.tmp 18, Go.Operand.tmp 22], argTypes := #[34, 34] }, type := 4, pos := "ref.go:87", after := #[{ on := 7, ground := Go.Ground.data }, { on := 11, ground := Go.Ground.data }, { on := 11, ground := Go.Ground.chain }, { on := 5, ground := Go.Ground.guard }], guard := some (5, true) }) rfl (fun K hK => ?_) AllReadyH.nil
    go_simp
    refine (kEq _ _ _ _ _ ho1 ho2).mono ?_
    rintro e wE ⟨rfl, nF, rfl⟩
    have hBE := below_drewK wD nF
    go_wp2_with fail
    have hSn := keepH hS hBE
    refine hK.out _ _ hSn (fun _ => ?_)
    clear hK K hS
    try simp only [Act.put, List.setIfInBounds_toArray, List.set_cons_zero, List.set_cons_succ]
    have hS := hSn
    clear hSn
    have hB := hB.trans (hBE.mono hB.size)
    clear ho1 ho2 hRf
    refine wpAnyH_take (i := 13) (oi := { dst := some 24, op := Go.Op.pick (Go.Operand.tmp 16) (Go.Operand.tmp 23) (Go.Operand.const (Go.Value.bool false)), type := 4, pos := "ref.go:87", after := #[{ on := 5, ground := Go.Ground.data }, { on := 12, ground := Go.Ground.data }], guard := none }) (v := .bool r) rfl (by kernel_rfl) (by kernel_rfl) (by kernel_rfl) (fun _ _ _ h => h) (Or.inl ⟨by rfl, fun w hSw => ?_⟩) hS ?_
    · go_split_ands
      go_simp
    try simp only [Act.put, List.setIfInBounds_toArray, List.set_cons_zero, List.set_cons_succ]
    refine wpAnyH_take (i := 14) (oi := { dst := some 4, op := Go.Op.assign (Go.Operand.tmp 24), type := 4, pos := "ref.go:87", after := #[{ on := 13, ground := Go.Ground.data }, { on := 12, ground := Go.Ground.chain }, { on := 0, ground := Go.Ground.phase }, { on := 1, ground := Go.Ground.phase }, { on := 2, ground := Go.Ground.phase }, { on := 3, ground := Go.Ground.phase }, { on := 4, ground := Go.Ground.phase }, { on := 5, ground := Go.Ground.phase }, { on := 6, ground := Go.Ground.phase }, { on := 7, ground := Go.Ground.phase }, { on := 8, ground := Go.Ground.phase }, { on := 9, ground := Go.Ground.phase }, { on := 10, ground := Go.Ground.phase }, { on := 11, ground := Go.Ground.phase }, { on := 12, ground := Go.Ground.phase }, { on := 13, ground := Go.Ground.phase }], guard := none }) (v := .bool r) rfl (by kernel_rfl) (by kernel_rfl) (by kernel_rfl) (fun _ _ _ h => h) (Or.inl ⟨by rfl, fun w hSw => ?_⟩) hS ?_
    · go_split_ands
      go_simp
    try simp only [Act.put, List.setIfInBounds_toArray, List.set_cons_zero, List.set_cons_succ]
    refine wpAnyH_done (by kernel_rfl) ?_ _
    go_wp2_with fail
    go_ret
    exact ⟨rfl, hB⟩
  · obtain rfl : r = false := by rw [hc]; simp [e]
    have G : ((lx : Int) == (la : Int)) = false := by simp; omega
    clear hc
    go_upto_region 3 with (fail)
    refine wp_region_held_drew (S := (fun w' : World => w'.cell? ⟨N3, 0, none⟩ = some (.int .u64 k0) ∧ w'.cell? ⟨N3, 1, none⟩ = some (.int .u64 k1) ∧ w'.cell? ⟨N3, 2, none⟩ = some (.int .u64 m))) (by kernel_rfl) hS0 ?_
    intro hS
    refine wpAnyH_take (i := 0) (oi := { dst := some 11, op := Go.Op.move (Go.Operand.tmp 6), type := 30, pos := "ref.go:87", after := #[], guard := none }) (v := .slice Ax lx cx) rfl (by kernel_rfl) (by kernel_rfl) (by kernel_rfl) (fun _ _ _ h => h) (Or.inl ⟨by rfl, fun w hSw => ?_⟩) hS ?_
    · go_split_ands
      go_simp
    try simp only [Act.put, List.setIfInBounds_toArray, List.set_cons_zero, List.set_cons_succ]
    refine wpAnyH_take (i := 1) (oi := { dst := some 12, op := Go.Op.call { callee := Go.Callee.builtin Go.Builtin.len, args := #[Go.Operand.tmp 11], argTypes := #[30] }, type := 3, pos := "ref.go:87", after := #[{ on := 0, ground := Go.Ground.data }], guard := none }) (v := .int .i64 lx) rfl (by kernel_rfl) (by kernel_rfl) (by kernel_rfl) (fun _ _ _ h => h) (Or.inl ⟨by rfl, fun w hSw => ?_⟩) hS ?_
    · go_split_ands
      go_simp
    try simp only [Act.put, List.setIfInBounds_toArray, List.set_cons_zero, List.set_cons_succ]
    refine wpAnyH_take (i := 2) (oi := { dst := some 13, op := Go.Op.move (Go.Operand.tmp 5), type := 30, pos := "ref.go:87", after := #[], guard := none }) (v := .slice Aa la ca) rfl (by kernel_rfl) (by kernel_rfl) (by kernel_rfl) (fun _ _ _ h => h) (Or.inl ⟨by rfl, fun w hSw => ?_⟩) hS ?_
    · go_split_ands
      go_simp
    try simp only [Act.put, List.setIfInBounds_toArray, List.set_cons_zero, List.set_cons_succ]
    refine wpAnyH_take (i := 3) (oi := { dst := some 14, op := Go.Op.call { callee := Go.Callee.builtin Go.Builtin.len, args := #[Go.Operand.tmp 13], argTypes := #[30] }, type := 3, pos := "ref.go:87", after := #[{ on := 2, ground := Go.Ground.data }], guard := none }) (v := .int .i64 la) rfl (by kernel_rfl) (by kernel_rfl) (by kernel_rfl) (fun _ _ _ h => h) (Or.inl ⟨by rfl, fun w hSw => ?_⟩) hS ?_
    · go_split_ands
      go_simp
    try simp only [Act.put, List.setIfInBounds_toArray, List.set_cons_zero, List.set_cons_succ]
    refine wpAnyH_take (i := 4) (oi := { dst := some 15, op := Go.Op.binOp Go.BinOp.eql 3 (Go.Operand.tmp 12) (Go.Operand.tmp 14) 3, type := 4, pos := "ref.go:87", after := #[{ on := 1, ground := Go.Ground.data }, { on := 3, ground := Go.Ground.data }], guard := none }) (v := .bool false) rfl (by kernel_rfl) (by kernel_rfl) (by kernel_rfl) (fun _ _ _ h => h) (Or.inl ⟨by rfl, fun w hSw => ?_⟩) hS ?_
    · go_split_ands
      go_simp
    try simp only [Act.put, List.setIfInBounds_toArray, List.set_cons_zero, List.set_cons_succ]
    refine wpAnyH_take (i := 5) (oi := { dst := some 16, op := Go.Op.move (Go.Operand.tmp 15), type := 4, pos := "ref.go:87", after := #[{ on := 4, ground := Go.Ground.data }], guard := none }) (v := .bool false) rfl (by kernel_rfl) (by kernel_rfl) (by kernel_rfl) (fun _ _ _ h => h) (Or.inl ⟨by rfl, fun w hSw => ?_⟩) hS ?_
    · go_split_ands
      go_simp
    try simp only [Act.put, List.setIfInBounds_toArray, List.set_cons_zero, List.set_cons_succ]
    refine wpAnyH_take (i := 6) (oi := { dst := some 17, op := Go.Op.move (Go.Operand.tmp 1), type := 37, pos := "ref.go:87", after := #[{ on := 5, ground := Go.Ground.guard }], guard := some (5, true) }) (v := undef) rfl (by kernel_rfl) (by kernel_rfl) (by kernel_rfl) (fun _ _ _ h => h) (Or.inr ⟨by rfl, rfl⟩) hS ?_
    try simp only [Act.put, List.setIfInBounds_toArray, List.set_cons_zero, List.set_cons_succ]
    refine wpAnyH_take (i := 8) (oi := { dst := some 19, op := Go.Op.load 40 (Go.Operand.tmp 2), type := 40, pos := "ref.go:87", after := #[{ on := 5, ground := Go.Ground.guard }], guard := some (5, true) }) (v := undef) rfl (by kernel_rfl) (by kernel_rfl) (by kernel_rfl) (fun _ _ _ h => h) (Or.inr ⟨by rfl, rfl⟩) hS ?_
    try simp only [Act.put, List.setIfInBounds_toArray, List.set_cons_zero, List.set_cons_succ]
    refine wpAnyH_take (i := 9) (oi := { dst := some 20, op := Go.Op.move (Go.Operand.tmp 6), type := 30, pos := "ref.go:87", after := #[{ on := 5, ground := Go.Ground.guard }], guard := some (5, true) }) (v := undef) rfl (by kernel_rfl) (by kernel_rfl) (by kernel_rfl) (fun _ _ _ h => h) (Or.inr ⟨by rfl, rfl⟩) hS ?_
    try simp only [Act.put, List.setIfInBounds_toArray, List.set_cons_zero, List.set_cons_succ]
    refine wpAnyH_take (i := 7) (oi := { dst := some 18, op := Go.Op.call { callee := Go.Callee.value (Go.Operand.func 12), args := #[Go.Operand.tmp 17, Go.Operand.const (Go.Value.int Go.IntKind.i64 0)], argTypes := #[37, 3] }, type := 34, pos := "ref.go:87", after := #[{ on := 6, ground := Go.Ground.data }, { on := 5, ground := Go.Ground.chain }, { on := 5, ground := Go.Ground.guard }], guard := some (5, true) }) (v := undef) rfl (by kernel_rfl) (by kernel_rfl) (by kernel_rfl) (fun _ _ _ h => h) (Or.inr ⟨by rfl, rfl⟩) hS ?_
    try simp only [Act.put, List.setIfInBounds_toArray, List.set_cons_zero, List.set_cons_succ]
    refine wpAnyH_take (i := 10) (oi := { dst := some 21, op := Go.Op.call { callee := Go.Callee.value (Go.Operand.func 13), args := #[Go.Operand.tmp 19, Go.Operand.tmp 20, Go.Operand.const (Go.Value.int Go.IntKind.i64 0)], argTypes := #[40, 30, 3] }, type := 37, pos := "ref.go:87", after := #[{ on := 8, ground := Go.Ground.data }, { on := 9, ground := Go.Ground.data }, { on := 7, ground := Go.Ground.chain }, { on := 5, ground := Go.Ground.guard }], guard := some (5, true) }) (v := undef) rfl (by kernel_rfl) (by kernel_rfl) (by kernel_rfl) (fun _ _ _ h => h) (Or.inr ⟨by rfl, rfl⟩) hS ?_
    try simp only [Act.put, List.setIfInBounds_toArray, List.set_cons_zero, List.set_cons_succ]
    refine wpAnyH_take (i := 11) (oi := { dst := some 22, op := Go.Op.call { callee := Go.Callee.value (Go.Operand.func 12), args := #[Go.Operand.tmp 21, Go.Operand.const (Go.Value.int Go.IntKind.i64 0)], argTypes := #[37, 3] }, type := 34, pos := "ref.go:87", after := #[{ on := 10, ground := Go.Ground.data }, { on := 10, ground := Go.Ground.chain }, { on := 5, ground := Go.Ground.guard }], guard := some (5, true) }) (v := undef) rfl (by kernel_rfl) (by kernel_rfl) (by kernel_rfl) (fun _ _ _ h => h) (Or.inr ⟨by rfl, rfl⟩) hS ?_
    try simp only [Act.put, List.setIfInBounds_toArray, List.set_cons_zero, List.set_cons_succ]
    refine wpAnyH_take (i := 12) (oi := { dst := some 23, op := Go.Op.call { callee := Go.Callee.value (Go.Operand.func 10), args := #[Go.Operand.tmp 18, Go.Operand.tmp 22], argTypes := #[34, 34] }, type := 4, pos := "ref.go:87", after := #[{ on := 7, ground := Go.Ground.data }, { on := 11, ground := Go.Ground.data }, { on := 11, ground := Go.Ground.chain }, { on := 5, ground := Go.Ground.guard }], guard := some (5, true) }) (v := undef) rfl (by kernel_rfl) (by kernel_rfl) (by kernel_rfl) (fun _ _ _ h => h) (Or.inr ⟨by rfl, rfl⟩) hS ?_
    try simp only [Act.put, List.setIfInBounds_toArray, List.set_cons_zero, List.set_cons_succ]
    refine wpAnyH_take (i := 13) (oi := { dst := some 24, op := Go.Op.pick (Go.Operand.tmp 16) (Go.Operand.tmp 23) (Go.Operand.const (Go.Value.bool false)), type := 4, pos := "ref.go:87", after := #[{ on := 5, ground := Go.Ground.data }, { on := 12, ground := Go.Ground.data }], guard := none }) (v := .bool false) rfl (by kernel_rfl) (by kernel_rfl) (by kernel_rfl) (fun _ _ _ h => h) (Or.inl ⟨by rfl, fun w hSw => ?_⟩) hS ?_
    · go_split_ands
      go_simp
    try simp only [Act.put, List.setIfInBounds_toArray, List.set_cons_zero, List.set_cons_succ]
    refine wpAnyH_take (i := 14) (oi := { dst := some 4, op := Go.Op.assign (Go.Operand.tmp 24), type := 4, pos := "ref.go:87", after := #[{ on := 13, ground := Go.Ground.data }, { on := 12, ground := Go.Ground.chain }, { on := 0, ground := Go.Ground.phase }, { on := 1, ground := Go.Ground.phase }, { on := 2, ground := Go.Ground.phase }, { on := 3, ground := Go.Ground.phase }, { on := 4, ground := Go.Ground.phase }, { on := 5, ground := Go.Ground.phase }, { on := 6, ground := Go.Ground.phase }, { on := 7, ground := Go.Ground.phase }, { on := 8, ground := Go.Ground.phase }, { on := 9, ground := Go.Ground.phase }, { on := 10, ground := Go.Ground.phase }, { on := 11, ground := Go.Ground.phase }, { on := 12, ground := Go.Ground.phase }, { on := 13, ground := Go.Ground.phase }], guard := none }) (v := .bool false) rfl (by kernel_rfl) (by kernel_rfl) (by kernel_rfl) (fun _ _ _ h => h) (Or.inl ⟨by rfl, fun w hSw => ?_⟩) hS ?_
    · go_split_ands
      go_simp
    try simp only [Act.put, List.setIfInBounds_toArray, List.set_cons_zero, List.set_cons_succ]
    refine wpAnyH_done (by kernel_rfl) ?_ _
    go_wp2_with fail
    go_ret
    exact ⟨rfl, hB⟩
end Go.Proofs.YtchimfgbdfmegaaGreat
