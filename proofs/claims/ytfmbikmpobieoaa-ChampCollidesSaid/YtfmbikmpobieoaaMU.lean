/- One block is one node: what the nodes of a trie have in common. -/
import Derived.Test.YtfmbikmpobieoaaML
import Derived.Test.YtfmbikmpobieoaaMJ
import Derived.ChangeMaps5
namespace Go.Proofs.Ytfmbikmpobieoaa
open Go.RowKit Go.Lib
set_option linter.unusedVariables false
set_option maxRecDepth 100000
set_option linter.unusedSimpArgs false
set_option maxRecDepth 100000
attribute [local irreducible] cnt
theorem flat_inj : ∀ {xs ys : List Pr}, flat xs = flat ys → xs = ys
  | [], [], _ => rfl
  | [], y :: ys, h => by simp [flat] at h
  | x :: xs, [], h => by simp [flat] at h
  | x :: xs, y :: ys, h => by
    have e : flat (x :: xs) = .string x.1 :: .string x.2 :: flat xs := rfl
    have e' : flat (y :: ys) = .string y.1 :: .string y.2 :: flat ys := rfl
    rw [e, e'] at h
    simp only [List.cons.injEq, Value.string.injEq] at h
    rw [flat_inj h.2.2, Prod.ext h.1 h.2.1]
theorem kcs_inj : ∀ {xs ys : List Nat}, kcs xs = kcs ys → xs = ys
  | [], [], _ => rfl
  | [], y :: ys, h => by simp [kcs] at h
  | x :: xs, [], h => by simp [kcs] at h
  | x :: xs, y :: ys, h => by
    simp only [kcs, List.map_cons, List.cons.injEq] at h
    have h1 : x = y := by have := h.1; unfold at0 at this; simpa using this
    rw [h1, kcs_inj (show kcs xs = kcs ys from h.2)]
theorem row_uniq {w : World} {base base' ty sz n n' : Nat} {v : Value} {xs ys : List Value} (h : w.ownsRow base ty sz v n xs) (h' : w.ownsRow base' ty sz v n' ys) (hn : n = n') : xs = ys := by
  subst hn
  by_cases h0 : 0 < n
  · obtain ⟨g, cap, cur, e, _, hB, _, _, _, ht⟩ := own_blk h h0
    obtain ⟨g', cap', cur', e', _, hB', _, _, _, ht'⟩ := own_blk h' h0
    rw [e] at e'
    simp only [Value.slice.injEq, Option.some.injEq, Addr.mk.injEq, and_true, true_and] at e'
    obtain ⟨rfl, -⟩ := e'
    unfold Blk at hB hB'
    rw [hB] at hB'
    simp only [Option.some.injEq, Obj.cells.injEq, and_true] at hB'
    rw [← ht, ← ht', hB']
  · have l1 := h.1
    have l2 := h'.1
    have e1 : xs = [] := List.length_eq_zero_iff.1 (by rw [l1]; have : n = 0 := by omega
                                                       rw [this]; simp)
    have e2 : ys = [] := List.length_eq_zero_iff.1 (by rw [l2]; have : n = 0 := by omega
                                                       rw [this]; simp)
    rw [e1, e2]
theorem own_formN {w : World} {base ty sz n : Nat} {v : Value} {xs : List Value} (h : w.ownsRow base ty sz v n xs) : ∃ A c, v = .slice A n c := by
  rcases h.2 with ⟨e, e0⟩ | ⟨g, cap, cur, e, _⟩
  · exact ⟨none, 0, by rw [e, e0]⟩
  · exact ⟨_, _, e⟩
theorem row_len {w : World} {base base' ty sz n n' : Nat} {v : Value} {xs ys : List Value} (h : w.ownsRow base ty sz v n xs) (h' : w.ownsRow base' ty sz v n' ys) : n = n' := by
  obtain ⟨A, c, e⟩ := own_formN h
  obtain ⟨A', c', e'⟩ := own_formN h'
  rw [e] at e'
  simp only [Value.slice.injEq] at e'
  exact e'.2.1
section
variable {base base' : Nat} {w : World} {b : Nat}
theorem NdV.uniq {o o' : Value} {bk bk' : Bool} {d d' nn nn' : Nat} {pv pv' kv kv' : Value} {xs xs' : List Pr} {ks ks' : List Nat} (h : NdV base w b o bk d nn pv kv xs ks) (h' : NdV base' w b o' bk' d' nn' pv' kv' xs' ks') :
    bk = bk' ∧ d = d' ∧ nn = nn' ∧ xs = xs' ∧ ks = ks' := by
  obtain ⟨c0, c1, c2, c3, c4, c5⟩ := h.cells
  obtain ⟨e0, e1, e2, e3, e4, e5⟩ := h'.cells
  rw [c1] at e1; rw [c2] at e2; rw [c3] at e3; rw [c4] at e4; rw [c5] at e5
  have f4 : pv = pv' := Option.some.inj e4
  have f5 : kv = kv' := Option.some.inj e5
  subst f4 f5
  have h1 : bk = bk' := by simpa using e1
  have h2 : d = d' := by have : (d : Int) = d' := by simpa using e2
                         omega
  have h3 : nn = nn' := by have : (nn : Int) = nn' := by simpa using e3
                           omega
  exact ⟨h1, h2, h3, flat_inj (row_uniq h.prs h'.prs (row_len h.prs h'.prs)), kcs_inj (row_uniq h.kds h'.kds (row_len h.kds h'.kds))⟩
theorem fm_uniq {α : Type} {d : Nat} {f g : Nat → Option α} (hf : BitsOf d (fun i => (f i).isSome)) (hg : BitsOf d (fun i => (g i).isSome)) (e : fm f 32 = fm g 32) (c : Nat) (hc : c < 32) : f c = g c := by
  have h1 := hf.bit c hc
  have h2 := hg.bit c hc
  have h3 : (f c).isSome = (g c).isSome := h1.symm.trans h2
  cases hfc : f c with
  | none =>
    rw [hfc] at h3
    cases hgc : g c with
    | none => rfl
    | some y => rw [hgc] at h3; simp at h3
  | some x =>
    rw [hfc] at h3
    cases hgc : g c with
    | none => rw [hgc] at h3; simp at h3
    | some y =>
      have a1 := fm_at f c x hc hfc
      have a2 := fm_at g c y hc hgc
      rw [← cnt_fm f hf c (by omega)] at a1
      rw [← cnt_fm g hg c (by omega)] at a2
      rw [e, a2] at a1
      exact a1.symm
theorem Inn.uniq {ow ow' : Option Nat} {S S' : Slots} {pv pv' kv kv' : Value} (h : Inn base w b ow S pv kv) (h' : Inn base' w b ow' S' pv' kv') (c : Nat) (hc : c < 32) : S c = S' c := by
  obtain ⟨d, nn, hN, hd, hn⟩ := h
  obtain ⟨d', nn', hN', hd', hn'⟩ := h'
  obtain ⟨-, rfl, rfl, e1, e2⟩ := hN.uniq hN'
  have p := fm_uniq hd hd' e1 c hc
  have q := fm_uniq hn hn' e2 c hc
  unfold Slots.P at p
  unfold Slots.K at q
  cases hs : S c <;> cases hs' : S' c <;> rw [hs, hs'] at p q <;> simp [Sl.p?, Sl.k?] at p q <;> first | rfl | (rw [p]) | (rw [q])
end
section
variable {H : ByteArray → Nat} {X X' : Nat → Prop} {tk tk' : Option Nat} {lv lv' : Bool} {base base' : Nat} {w : World}
/-- a block is a node of one set of pairs -/
theorem Trie.same : ∀ (n l b : Nat) (ps : List Pr) (F : Nat → Prop), Trie H X tk lv base w n l b ps F → ∀ (n' l' : Nat) (ps' : List Pr) (F' : Nat → Prop), Trie H X' tk' lv' base' w n' l' b ps' F' → ∀ p, p ∈ ps → p ∈ ps'
  | 0, l, b, ps, F, h, 0, l', ps', F', h', p, hp => by
    obtain ⟨ow, pv, kv, lo, hB, -, -⟩ := h
    obtain ⟨ow', pv', kv', lo', hB', -, -⟩ := h'
    obtain ⟨-, -, -, e, -⟩ := hB.1.uniq hB'.1
    rw [← e]; exact hp
  | 0, l, b, ps, F, h, n' + 1, l', ps', F', h', p, hp => by
    obtain ⟨ow, pv, kv, lo, hB, -, -⟩ := h
    obtain ⟨ow', pv', kv', lo', S', Fs', ⟨d', nn', hN', -, -⟩, -, -, -⟩ := h'
    exact absurd (hB.1.uniq hN').1 (by decide)
  | n + 1, l, b, ps, F, h, 0, l', ps', F', h', p, hp => by
    obtain ⟨ow, pv, kv, lo, S, Fs, ⟨d, nn, hN, -, -⟩, -, -, -⟩ := h
    obtain ⟨ow', pv', kv', lo', hB', -, -⟩ := h'
    exact absurd (hN.uniq hB'.1).1 (by decide)
  | n + 1, l, b, ps, F, h, n' + 1, l', ps', F', h', p, hp => by
    obtain ⟨ow, pv, kv, lo, S, Fs, hI, -, -, hS⟩ := h
    obtain ⟨ow', pv', kv', lo', S', Fs', hI', -, -, hS'⟩ := h'
    have hc := chk_lt H l p.1
    have e := hI.uniq hI' _ hc
    have h1 := hS _ hc
    have h2 := hS' _ hc
    have hm : p ∈ sub H l (chk H l p.1) ps := sub_mem.2 ⟨hp, rfl⟩
    unfold SlotIs at h1 h2
    rw [← e] at h2
    cases hs : S (chk H l p.1) with
    | no => rw [hs] at h1; rw [h1.1] at hm; simp at hm
    | pr q =>
      rw [hs] at h1 h2
      rw [h1.1] at hm
      have : p = q := List.mem_singleton.1 hm
      have h3 : q ∈ sub H l' (chk H l p.1) ps' := by rw [h2.1]; simp
      rw [this]; exact (sub_mem.1 h3).1
    | kd k =>
      rw [hs] at h1 h2
      exact (sub_mem.1 (Trie.same n (l + 1) k _ _ h1.2 n' (l' + 1) _ _ h2.2 p hm)).1
/-- a node's children -/
def Kd (base : Nat) (w : World) (b k : Nat) : Prop := ∃ ow S pv kv c, c < 32 ∧ Inn base w b ow S pv kv ∧ S c = .kd k
/-- what is below a node -/
inductive Dsc (base : Nat) (w : World) : Nat → Nat → Prop
  | one {b k : Nat} : Kd base w b k → Dsc base w b k
  | more {b j k : Nat} : Kd base w b j → Dsc base w j k → Dsc base w b k
theorem Trie.kid {n l b k : Nat} {ps : List Pr} {F : Nat → Prop} (h : Trie H X tk lv base w n l b ps F) (hk : Kd base w b k) : ∃ n' c G, n = n' + 1 ∧ c < 32 ∧ Trie H X tk lv base w n' (l + 1) k (sub H l c ps) G ∧ 2 ≤ (sub H l c ps).length := by
  obtain ⟨ow', S', pv', kv', c, hc, hI', hs⟩ := hk
  cases n with
  | zero =>
    obtain ⟨ow, pv, kv, lo, hB, -, -⟩ := h
    obtain ⟨d', nn', hN', -, -⟩ := hI'
    exact absurd (hB.1.uniq hN').1 (by decide)
  | succ n =>
    obtain ⟨ow, pv, kv, lo, S, Fs, hI, -, -, hS⟩ := h
    have e := hI.uniq hI' c hc
    have h1 := hS c hc
    unfold SlotIs at h1
    rw [e, hs] at h1
    exact ⟨n, c, Fs c, rfl, hc, h1.2, h1.1⟩
theorem Trie.dsc {b k : Nat} (hk : Dsc base w b k) : ∀ {n l : Nat} {ps : List Pr} {F : Nat → Prop}, Trie H X tk lv base w n l b ps F → ∃ n' l' ps' G, n' < n ∧ Trie H X tk lv base w n' l' k ps' G ∧ 2 ≤ ps'.length ∧ ∀ p ∈ ps', p ∈ ps := by
  induction hk with
  | one h1 =>
    intro n l ps F h
    obtain ⟨n', c, G, rfl, hc, hT, h2⟩ := h.kid h1
    exact ⟨n', l + 1, _, G, Nat.lt_succ_self _, hT, h2, fun p hp => (sub_mem.1 hp).1⟩
  | more h1 _ ih =>
    intro n l ps F h
    obtain ⟨n', c, G, rfl, hc, hT, h2⟩ := h.kid h1
    obtain ⟨n2, l2, ps2, G2, hlt, hT2, h3, hm⟩ := ih hT
    exact ⟨n2, l2, ps2, G2, Nat.lt_succ_of_lt hlt, hT2, h3, fun p hp => (sub_mem.1 (hm p hp)).1⟩
/-- no node is below itself -/
theorem Trie.acyclic {b : Nat} : ∀ (n l : Nat) (ps : List Pr) (F : Nat → Prop), Trie H X tk lv base w n l b ps F → ¬ Dsc base w b b := by
  intro n
  induction n using Nat.strongRecOn with
  | _ n ih =>
    intro l ps F h hd
    obtain ⟨n', l', ps', G, hlt, hT, -, -⟩ := h.dsc hd
    exact ih n' hlt l' ps' G hT hd
end
end Go.Proofs.Ytfmbikmpobieoaa
/- Counting a trie's pairs: what a stack of nodes and a set of nodes seen have to do with them. -/
namespace Go.Proofs.Ytfmbikmpobieoaa
open Go.RowKit Go.Lib
set_option linter.unusedVariables false
set_option maxRecDepth 100000
set_option linter.unusedSimpArgs false
set_option maxRecDepth 100000
attribute [local irreducible] cnt
/-- a node that waits: its block, levels left, level, pairs -/
structure Wt where
  b : Nat
  n : Nat
  l : Nat
  qs : List Pr
def Wt.wg (e : Wt) : Nat := e.qs.length * e.n + 1
def wgs (st : List Wt) : Nat := (st.map Wt.wg).sum
structure Stk (H : ByteArray → Nat) (X : Nat → Prop) (tk : Option Nat) (lv : Bool) (base : Nat) (w : World) (tot : Nat) (st : List Wt) (seen : List Nat) (cn : Nat) : Prop where
  tr : ∀ e ∈ st, ∃ F, Trie H X tk lv base w e.n e.l e.b e.qs F
  dj : st.Pairwise fun x y => ∀ p ∈ x.qs, p ∉ y.qs
  sn : ∀ s ∈ seen, ∀ e ∈ st, e.b ≠ s ∧ ¬ Dsc base w e.b s
  sum : cn + (st.map fun e => e.qs.length).sum = tot
/-- the children that wait -/
def kidWts (H : ByteArray → Nat) (n l : Nat) (qs : List Pr) (S : Slots) : List Wt :=
  fm (fun c => (S.K c).map fun k => ⟨k, n, l + 1, sub H l c qs⟩) 32
section
variable {H : ByteArray → Nat} {X : Nat → Prop} {tk : Option Nat} {lv : Bool} {base : Nat} {w : World} {tot : Nat} {st : List Wt} {seen : List Nat} {cn : Nat}
theorem fm_map {α β : Type} (f : Nat → Option α) (g : Nat → Option β) (h : β → α) (hf : ∀ c, f c = (g c).map h) : ∀ n, fm f n = (fm g n).map h
  | 0 => rfl
  | n + 1 => by
    rw [fm_succ, fm_succ, List.map_append, fm_map f g h hf n, hf n]
    cases g n <;> rfl
theorem kidWts_b (H : ByteArray → Nat) (n l : Nat) (qs : List Pr) (S : Slots) : (kidWts H n l qs S).map (·.b) = fm S.K 32 := by
  have := fm_map (fun c => S.K c) (fun c => (S.K c).map fun k => (⟨k, n, l + 1, sub H l c qs⟩ : Wt)) (·.b) (fun c => by cases S.K c <;> rfl) 32
  exact this.symm
theorem kidWts_mem {n l : Nat} {qs : List Pr} {S : Slots} {e : Wt} (h : e ∈ kidWts H n l qs S) : ∃ c, c < 32 ∧ S c = .kd e.b ∧ e.n = n ∧ e.l = l + 1 ∧ e.qs = sub H l c qs := by
  obtain ⟨c, hc, he⟩ := fm_mem.1 h
  refine ⟨c, hc, ?_⟩
  cases hs : S c with
  | no => unfold Slots.K at he; rw [hs] at he; simp [Sl.k?] at he
  | pr p => unfold Slots.K at he; rw [hs] at he; simp [Sl.k?] at he
  | kd k =>
    unfold Slots.K at he; rw [hs] at he; simp [Sl.k?] at he
    subst he
    exact ⟨rfl, rfl, rfl, rfl⟩
theorem fm_pairwise {α : Type} {f : Nat → Option α} {R : α → α → Prop} (h : ∀ c d x y, c < d → f c = some x → f d = some y → R x y) : ∀ n, (fm f n).Pairwise R
  | 0 => List.Pairwise.nil
  | n + 1 => by
    rw [fm_succ, List.pairwise_append]
    refine ⟨fm_pairwise h n, ?_, fun x hx y hy => ?_⟩
    · cases f n <;> simp
    · obtain ⟨c, hc, hfc⟩ := fm_mem.1 hx
      have : f n = some y := by cases hfn : f n with
        | none => rw [hfn] at hy; simp at hy
        | some z => rw [hfn] at hy; simp at hy; rw [hy]
      exact h c n x y hc hfc this
theorem kidWts_dj (n l : Nat) (qs : List Pr) (S : Slots) : (kidWts H n l qs S).Pairwise fun x y => ∀ p ∈ x.qs, p ∉ y.qs := by
  refine fm_pairwise (fun c d x y hcd hx hy p hp hq => ?_) 32
  cases hkc : S.K c with
  | none => rw [hkc] at hx; simp at hx
  | some k =>
    cases hkd : S.K d with
    | none => rw [hkd] at hy; simp at hy
    | some k' =>
      rw [hkc] at hx; rw [hkd] at hy
      simp at hx hy
      subst hx hy
      have h1 := (sub_mem.1 hp).2
      have h2 := (sub_mem.1 hq).2
      omega
theorem map_fm {α β : Type} (f : Nat → Option α) (h : α → β) : ∀ n, (fm f n).map h = fm (fun c => (f c).map h) n
  | 0 => rfl
  | n + 1 => by
    rw [fm_succ, fm_succ, List.map_append, map_fm f h n]
    cases f n <;> rfl
theorem fm_sums (f : Nat → Option Nat) : ∀ n, (fm f n).sum = ((List.range n).map fun c => (f c).getD 0).sum
  | 0 => rfl
  | n + 1 => by
    rw [fm_succ, List.sum_append, fm_sums f n, List.range_succ, List.map_append, List.sum_append]
    cases h : f n <;> simp [h]
/-- the pairs of a node, and of its children, are all its pairs -/
theorem slots_sum {l n : Nat} {S : Slots} {qs : List Pr} (h : SlotsOf H l S qs) : (fm S.P 32).length + ((kidWts H n l qs S).map fun e => e.qs.length).sum = qs.length := by
  unfold kidWts
  rw [map_fm, fm_sums, fm_sum, ← sum_add, ← sub_sum (H := H) (l := l) qs]
  refine sum_congr 32 fun c hc => ?_
  rcases h.at_ c hc with ⟨e1, e2⟩ | ⟨p, e1, e2⟩ | ⟨k, e1, e2⟩
  · unfold Slots.P Slots.K; rw [e1, e2]; rfl
  · unfold Slots.P Slots.K; rw [e1, e2]; rfl
  · unfold Slots.P Slots.K; rw [e1]; simp [Sl.p?, Sl.k?]
theorem slots_wg {l n : Nat} {S : Slots} {qs : List Pr} (h : SlotsOf H l S qs) : wgs (kidWts H n l qs S) ≤ qs.length * (n + 1) := by
  have h1 : wgs (kidWts H n l qs S) ≤ ((kidWts H n l qs S).map fun e => e.qs.length).sum * (n + 1) := by
    unfold wgs
    have hall : ∀ e ∈ kidWts H n l qs S, e.wg ≤ e.qs.length * (n + 1) := fun e he => by
      obtain ⟨c, hc, hs, e1, e2, e3⟩ := kidWts_mem he
      unfold Wt.wg
      rw [e1, e3]
      have h2 : 2 ≤ (sub H l c qs).length := by
        rcases h.at_ c hc with ⟨g1, g2⟩ | ⟨p, g1, g2⟩ | ⟨k, g1, g2⟩
        · rw [hs] at g1; cases g1
        · rw [hs] at g1; cases g1
        · exact g2
      rw [Nat.mul_succ]; omega
    generalize kidWts H n l qs S = L at hall
    induction L with
    | nil => simp
    | cons a L ih =>
      have g1 := hall a (by simp)
      have g2 := ih fun e he => hall e (by simp [he])
      simp only [List.map_cons, List.sum_cons]
      rw [Nat.add_mul]; omega
  refine Nat.le_trans h1 (Nat.mul_le_mul_right _ ?_)
  have := slots_sum (n := n) h
  omega
theorem wgs_append (a b : List Wt) : wgs (a ++ b) = wgs a + wgs b := by unfold wgs; rw [List.map_append, List.sum_append]
/-- a node without children is counted -/
theorem Stk.leaf {e : Wt} {k : Nat} (h : Stk H X tk lv base w tot (st ++ [e]) seen cn) (hk : k = e.qs.length) : Stk H X tk lv base w tot st seen (cn + k) ∧ wgs st < wgs (st ++ [e]) := by
  refine ⟨⟨fun x hx => h.tr x (by simp [hx]), (List.pairwise_append.1 h.dj).1, fun s hs x hx => h.sn s hs x (by simp [hx]), ?_⟩, ?_⟩
  · have := h.sum
    rw [List.map_append, List.sum_append] at this
    simp at this
    omega
  · rw [wgs_append]; unfold wgs Wt.wg; simp
/-- .. one with children makes place for them -/
theorem Stk.inner {e : Wt} {m : Nat} {ow : Option Nat} {S : Slots} {pv kv : Value} {Fs : Nat → Nat → Prop} (h : Stk H X tk lv base w tot (st ++ [e]) seen cn) (hn : e.n = m + 1) (hI : Inn base w e.b ow S pv kv)
    (hS : ∀ c, c < 32 → SlotIs (fun k qs G => Trie H X tk lv base w m (e.l + 1) k qs G) (S c) (sub H e.l c e.qs) (Fs c)) (hk : fm S.K 32 ≠ []) :
    e.b ∉ seen ∧ Stk H X tk lv base w tot (st ++ kidWts H m e.l e.qs S) (seen ++ [e.b]) (cn + (fm S.P 32).length) ∧ wgs (st ++ kidWts H m e.l e.qs S) < wgs (st ++ [e]) := by
  have hso := SlotIs.of hS
  have hkid : ∀ x ∈ kidWts H m e.l e.qs S, Kd base w e.b x.b ∧ (∃ F, Trie H X tk lv base w x.n x.l x.b x.qs F) ∧ (∀ p ∈ x.qs, p ∈ e.qs) := fun x hx => by
    obtain ⟨c, hc, hs, e1, e2, e3⟩ := kidWts_mem hx
    refine ⟨⟨ow, S, pv, kv, c, hc, hI, hs⟩, ⟨Fs c, ?_⟩, fun p hp => ?_⟩
    · have := hS c hc
      unfold SlotIs at this
      rw [hs] at this
      rw [e1, e2, e3]; exact this.2
    · rw [e3] at hp; exact (sub_mem.1 hp).1
  obtain ⟨F, hT⟩ := h.tr e (by simp)
  have hacy := Trie.acyclic _ _ _ _ hT
  -- a pair below e
  obtain ⟨k0, hk0⟩ := List.exists_mem_of_ne_nil _ hk
  obtain ⟨c0, hc0, hs0⟩ := fm_mem.1 hk0
  obtain ⟨p0, hp0⟩ : ∃ p, p ∈ e.qs := by
    rcases hso.at_ c0 hc0 with ⟨g1, g2⟩ | ⟨p, g1, g2⟩ | ⟨k, g1, g2⟩
    · unfold Slots.K at hs0; rw [g1] at hs0; cases hs0
    · unfold Slots.K at hs0; rw [g1] at hs0; cases hs0
    · obtain ⟨p, hp⟩ := List.exists_mem_of_length_pos (show 0 < (sub H e.l c0 e.qs).length by omega)
      exact ⟨p, (sub_mem.1 hp).1⟩
  have hother : ∀ x ∈ st, x.b ≠ e.b ∧ ¬ Dsc base w x.b e.b := fun x hx => by
    obtain ⟨Fx, hTx⟩ := h.tr x (by simp [hx])
    have hdis := (List.pairwise_append.1 h.dj).2.2 x hx e (by simp)
    refine ⟨fun hb => ?_, fun hd => ?_⟩
    · rw [hb] at hTx
      exact hdis p0 (Trie.same _ _ _ _ _ hT _ _ _ _ hTx p0 hp0) hp0
    · obtain ⟨n', l', ps', G, _, hT', h2, hm⟩ := hTx.dsc hd
      obtain ⟨p, hp⟩ := List.exists_mem_of_length_pos (show 0 < ps'.length by omega)
      exact hdis p (hm p hp) (Trie.same _ _ _ _ _ hT' _ _ _ _ hT p hp)
  refine ⟨fun hs => (h.sn _ hs e (by simp)).1 rfl, ⟨fun x hx => ?_, ?_, fun s hs x hx => ?_, ?_⟩, ?_⟩
  · rcases List.mem_append.1 hx with hx | hx
    · exact h.tr x (by simp [hx])
    · exact (hkid x hx).2.1
  · rw [List.pairwise_append]
    refine ⟨(List.pairwise_append.1 h.dj).1, kidWts_dj _ _ _ _, fun x hx y hy p hp hq => ?_⟩
    exact (List.pairwise_append.1 h.dj).2.2 x hx e (by simp) p hp ((hkid y hy).2.2 p hq)
  · rcases List.mem_append.1 hs with hs | hs
    · rcases List.mem_append.1 hx with hx | hx
      · exact h.sn s hs x (by simp [hx])
      · have hn := (h.sn s hs e (by simp)).2
        refine ⟨fun hb => hn (.one ?_), fun hd => hn (.more (hkid x hx).1 hd)⟩
        rw [← hb]; exact (hkid x hx).1
    · rw [List.mem_singleton] at hs
      subst hs
      rcases List.mem_append.1 hx with hx | hx
      · exact hother x hx
      · refine ⟨fun hb => hacy (.one ?_), fun hd => hacy (.more (hkid x hx).1 hd)⟩
        have := (hkid x hx).1
        rw [hb] at this; exact this
  · have h1 := h.sum
    have h2 := slots_sum (n := m) hso
    rw [List.map_append, List.sum_append] at h1 ⊢
    simp only [List.map_cons, List.map_nil, List.sum_cons, List.sum_nil] at h1
    omega
  · rw [wgs_append, wgs_append]
    have h1 := slots_wg (n := m) hso
    have h2 : wgs [e] = e.qs.length * (m + 1) + 1 := by unfold wgs Wt.wg; simp [hn]
    omega
end
end Go.Proofs.Ytfmbikmpobieoaa
/- Maps whose keys are pointers. -/
namespace Go.Proofs.Ytfmbikmpobieoaa
open Go.RowKit Go.Lib Go.Conc
set_option linter.unusedVariables false
set_option maxRecDepth 100000
set_option linter.unusedSimpArgs false
set_option maxRecDepth 100000
attribute [local irreducible] cnt
/-- what a map has, in the order in which it came -/
def PMap (w : World) (M : Nat) (l : List (Nat × Value)) : Prop := ∃ es clock, w.heap[M]? = some (.map es clock) ∧ es.toList.map (fun e => (e.key, e.val)) = l.map fun p => (at0 p.1, p.2)
section
variable {P : Program} {k elem : TypeId} {j : TypeInfo} {w w' : World} {b M : Nat} {l : List (Nat × Value)}
theorem PMap.below (h : PMap w M l) (hb : Below w.heap.size w w') : PMap w' M l := by
  obtain ⟨es, cl, h1, h2⟩ := h
  have hlt : M < w.heap.size := (Array.getElem?_eq_some_iff.1 h1).1
  exact ⟨es, cl, (hb.block M hlt).trans h1, h2⟩
theorem PMap.keep {X : List Nat} (h : PMap w M l) (hk : Keep X w w') (hM : M ∉ X) : PMap w' M l := by
  obtain ⟨es, cl, h1, h2⟩ := h
  have hlt : M < w.heap.size := (Array.getElem?_eq_some_iff.1 h1).1
  exact ⟨es, cl, (hk.block M hlt hM).trans h1, h2⟩
theorem PMap.notCells (h : PMap w M l) {cs : Array Value} {t : TypeId} {fr : Nat × Nat} : w.heap[M]? ≠ some (.cells cs t fr) := by
  obtain ⟨es, cl, h1, h2⟩ := h
  rw [h1]; simp
theorem PMap.new (w : World) : PMap (w.alloc (.map #[] 0)) w.heap.size [] := ⟨#[], 0, (MapKept.heap_alloc w _).1, rfl⟩
theorem eq_ptr_other (hu : P.underlying k = some (.pointer elem)) (hi : P.info? elem = some j) (hs : j.size ≠ 0) {a b : Nat} {ca cb : Array Value} {ta tb : TypeId} (hne : a ≠ b) (ha : Blk w a ta ca) (hb : Blk w b tb cb) : (Op.equal k (at0 a) (at0 b)).run P w = .ok false w := by
  unfold at0
  have h : ∀ d : Nat, (Op.equalIn (d + 1) k (.pointer (some ⟨a, 0, none⟩)) (.pointer (some ⟨b, 0, none⟩))).run P w = .ok false w := fun d => by
    simp [Op.equalIn, run_underlying hu, sizeOf, typeInfo, hi, hs, run_sameAddr_other w (a := ⟨a, 0, none⟩) (b := ⟨b, 0, none⟩) (fun e => hne (congrArg Addr.block e)) ha hb]
  simp [Op.equal, Op.maxDepth, h 9999]
theorem eq_ptr_same (hu : P.underlying k = some (.pointer elem)) (hi : P.info? elem = some j) (hs : j.size ≠ 0) (a : Nat) : (Op.equal k (at0 a) (at0 a)).run P w = .ok true w := by
  unfold at0
  have h : ∀ d : Nat, (Op.equalIn (d + 1) k (.pointer (some ⟨a, 0, none⟩)) (.pointer (some ⟨a, 0, none⟩))).run P w = .ok true w := fun d => by
    simp [Op.equalIn, run_underlying hu, sizeOf, typeInfo, hi, hs, run_sameAddr_same]
  simp [Op.equal, Op.maxDepth, h 9999]
theorem ask_none (hu : P.underlying k = some (.pointer elem)) (hi : P.info? elem = some j) (hs : j.size ≠ 0) {tb : TypeId} {cb : Array Value} (hb : Blk w b tb cb) :
    ∀ (es : List MapEntry) (i : Nat), (∀ e ∈ es, ∃ a ta ca, e.key = at0 a ∧ a ≠ b ∧ Blk w a ta ca) → (Instr.findAsking k (at0 b) es i).run P w = .ok none w
  | [], i, _ => by simp [Instr.findAsking]
  | e :: es, i, h => by
    obtain ⟨a, ta, ca, e1, e2, e3⟩ := h e (by simp)
    have := eq_ptr_other (P := P) hu hi hs (fun x => e2 x.symm) hb e3
    simp [Instr.findAsking, e1, this, ask_none hu hi hs hb es (i + 1) fun x hx => h x (by simp [hx])]
theorem find_none (hu : P.underlying k = some (.pointer elem)) (hi : P.info? elem = some j) (hs : j.size ≠ 0) {tb : TypeId} {cb : Array Value} (hb : Blk w b tb cb) (es : List MapEntry) (h : ∀ e ∈ es, ∃ a ta ca, e.key = at0 a ∧ a ≠ b ∧ Blk w a ta ca) :
    (Instr.findKey k (at0 b) es).run P w = .ok none w := by
  cases es with
  | nil => simp [Instr.findKey, run_underlying hu, Instr.findNow]
  | cons e es =>
    have hn : Instr.findNow (.pointer elem) (at0 b) (e :: es) 0 = none := by
      obtain ⟨a, ta, ca, e1, e2, e3⟩ := h e (by simp)
      unfold Instr.findNow
      rw [e1]
      rfl
    simp [Instr.findKey, run_underlying hu, hn, ask_none hu hi hs hb (e :: es) 0 h]
theorem checkKey_ptr (hu : P.underlying k = some (.pointer elem)) (em : Bool) (v : Value) : (Instr.checkKey em 10000 k v).run P w = .ok () w := by
  have h : ∀ d : Nat, (Instr.checkKey em (d + 1) k v).run P w = .ok () w := fun d => by
    simp [Instr.checkKey, run_underlying hu]
  exact h 9999
theorem PMap.entries {es : Array MapEntry} (h2 : es.toList.map (fun e => (e.key, e.val)) = l.map fun p => (at0 p.1, p.2)) (hn : ∀ p ∈ l, p.1 ≠ b) (hl : ∀ p ∈ l, ∃ t c, Blk w p.1 t c) : ∀ e ∈ es.toList, ∃ a ta ca, e.key = at0 a ∧ a ≠ b ∧ Blk w a ta ca := fun e he => by
  have : (e.key, e.val) ∈ l.map fun p => (at0 p.1, p.2) := by rw [← h2]; exact List.mem_map.2 ⟨e, he, rfl⟩
  obtain ⟨p, hp, e1⟩ := List.mem_map.1 this
  obtain ⟨t, c, hB⟩ := hl p hp
  exact ⟨p.1, t, c, (congrArg Prod.fst e1).symm, hn p hp, hB⟩
theorem PMap.look_none {t e : TypeId} {z : Value} (h : PMap w M l) (ht : P.underlying t = some (.map k e)) (hu : P.underlying k = some (.pointer elem)) (hi : P.info? elem = some j) (hs : j.size ≠ 0) (hz : (zeroValue e).run P w = .ok z w) {tb : TypeId} {cb : Array Value} (hb : Blk w b tb cb) (hn : ∀ p ∈ l, p.1 ≠ b) (hl : ∀ p ∈ l, ∃ t c, Blk w p.1 t c) :
    (Instr.lookup t (.map (some M)) (at0 b) true).run P w = .ok (.tuple #[z, .bool false]) w := by
  obtain ⟨es, cl, h1, h2⟩ := h
  have hf := find_none (P := P) hu hi hs hb es.toList (PMap.entries h2 hn hl)
  simp [Instr.lookup, run_underlying ht, MapKept.run_getObj_map h1, checkKey_ptr hu, hf, hz, Result.andThen]
theorem PMap.put_none {t e : TypeId} {v : Value} (h : PMap w M l) (ht : P.underlying t = some (.map k e)) (hu : P.underlying k = some (.pointer elem)) (hi : P.info? elem = some j) (hs : j.size ≠ 0) {tb : TypeId} {cb : Array Value} (hb : Blk w b tb cb) (hn : ∀ p ∈ l, p.1 ≠ b) (hl : ∀ p ∈ l, ∃ t c, Blk w p.1 t c) :
    ∃ w', (Instr.mapUpdate t (.map (some M)) (at0 b) v).run P w = .ok () w' ∧ PMap w' M (l ++ [(b, v)]) ∧ Keep [M] w w' ∧ w'.heap.size = w.heap.size := by
  obtain ⟨es, cl, h1, h2⟩ := h
  have hf := find_none (P := P) hu hi hs hb es.toList (PMap.entries h2 hn hl)
  have hlt : M < w.heap.size := (Array.getElem?_eq_some_iff.1 h1).1
  refine ⟨ChangeMaps.setBlock w M (.map (es.push { key := at0 b, val := v, born := cl }) (cl + 1)), by simp [Instr.mapUpdate, run_underlying ht, MapKept.run_getObj_map h1, checkKey_ptr hu, hf, MapKept.run_setObj_map _ h1, Result.andThen, ChangeMaps.setBlock], ⟨_, _, ChangeMaps.heap_setBlock_same h1 _, ?_⟩, ⟨⟨rfl, rfl, rfl, by simp [ChangeMaps.setBlock], fun i hi => by omega⟩, fun i hi hx => ChangeMaps.heap_setBlock_other h1 _ (fun e => hx (by rw [e]; simp))⟩, by simp [ChangeMaps.setBlock]⟩
  simp [h2]
end
end Go.Proofs.Ytfmbikmpobieoaa
/- Len: the number of a trie's pairs. -/
namespace Go.Proofs.Ytfmbikmpobieoaa
open Go.RowKit Go.Lib Go.Conc
set_option linter.unusedVariables false
set_option maxRecDepth 100000
set_option linter.unusedSimpArgs false
set_option maxRecDepth 100000
attribute [local irreducible] cnt
theorem keep_grown {w w' : World} {r : Option Nat} (hg : w.grownBy w' r) : Keep r.toList w w' := ⟨⟨hg.os, hg.tape, hg.output, hg.size, fun i hi => by omega⟩, fun i hi hx => hg.block i hi fun e => hx (by rw [← e]; simp)⟩
theorem OwnK.shorter {base : Nat} {w : World} {g n c : Nat} {ks : List Nat} {k : Nat} (h : OwnK base w (.slice (some ⟨g, 0, none⟩) (n + 1) c) (ks ++ [k])) (hn : n = ks.length) : OwnK base w (.slice (some ⟨g, 0, none⟩) n c) ks := by
  subst hn
  refine ⟨by simp [kcs], .inr ?_⟩
  rcases h.2 with ⟨e, _⟩ | ⟨g', cap, cur, e, h1, h2, h3, h4, h5, h6⟩
  · cases e
  · simp only [Value.slice.injEq, Option.some.injEq, Addr.mk.injEq, and_true, true_and] at e
    obtain ⟨rfl, -, rfl⟩ := e
    refine ⟨g, c, cur, rfl, h1, h2, by rw [List.length_append] at h3; omega, h4, h5, ?_⟩
    have e2 : cur.toList.take (ks.length * 1) = (cur.toList.take ((ks ++ [k]).length * 1)).take (ks.length * 1) := by
      rw [List.take_take, Nat.min_eq_left (by rw [List.length_append]; omega)]
    rw [e2, h6]
    simp [kcs]
theorem kcs_len (ks : List Nat) : (kcs ks).length = ks.length := by simp [kcs]
def PSet (w : World) (M : Nat) (seen : List Nat) : Prop := PMap w M (seen.map fun s => (s, .agg #[]))
structure LenR (H : ByteArray → Nat) (X : Nat → Prop) (tk : Option Nat) (lv : Bool) (base : Nat) (w : World) (tot M : Nat) (st : List Wt) (v3 v5 : Value) (wr : World) (seen : List Nat) (cn : Nat) : Prop where
  stk : Stk H X tk lv base w tot st seen cn
  c3 : v3 = .int .i64 cn
  row : OwnK w.heap.size wr v5 (st.map (·.b))
  mp : PSet wr M seen
  nodes : ∀ s ∈ seen, ∃ cs, Blk w s 63 cs
  bel : Below w.heap.size w wr
  wl : wgs st ≤ 10401
theorem info30 : (Try.prog.info? 29).map (fun i => (i.zero, i.size, i.bytes)) = some (some (.pointer none), 1, 8) := by kernel_rfl
theorem zsz_ptr : (Value.cells (.pointer none)).size = 1 := by simp [Value.cells]
theorem zero103 (w : World) : (zeroValue 67).run Try.prog w = .ok (.agg #[]) w := by
  have h : (Try.prog.info? 67).map (·.zero) = some (some (.agg #[])) := by kernel_rfl
  obtain ⟨i, hi, hb⟩ := Option.map_eq_some_iff.1 h
  simp [zeroValue, typeInfo, hi, hb]
theorem stk_wts {st : List Wt} (h : st ≠ []) : ∃ r e, st = r ++ [e] := ⟨st.dropLast, st.getLast h, (List.dropLast_concat_getLast h).symm⟩
theorem run_makeMap98 (w : World) : (Instr.makeMap 66 none).run Try.prog w = .ok (.map (some w.heap.size)) (w.alloc (.map #[] 0)) := by
  simp [Instr.makeMap, Result.andThen]
theorem wgs_len : ∀ st : List Wt, st.length ≤ wgs st
  | [] => Nat.zero_le _
  | e :: r => by
    have := wgs_len r
    unfold wgs Wt.wg at *
    simp only [List.map_cons, List.sum_cons, List.length_cons]
    omega
theorem Stk.done {H : ByteArray → Nat} {X : Nat → Prop} {tk : Option Nat} {lv : Bool} {base : Nat} {w : World} {tot : Nat} {seen : List Nat} {cn : Nat} (h : Stk H X tk lv base w tot [] seen cn) : cn = tot := by
  have := h.sum
  simpa using this
theorem Stk.le {H : ByteArray → Nat} {X : Nat → Prop} {tk : Option Nat} {lv : Bool} {base : Nat} {w : World} {tot : Nat} {st : List Wt} {seen : List Nat} {cn : Nat} {e : Wt} (h : Stk H X tk lv base w tot (st ++ [e]) seen cn) : cn + e.qs.length ≤ tot := by
  have := h.sum
  rw [List.map_append, List.sum_append] at this
  simp at this
  omega
/-- a node without children, or one with some -/
theorem Trie.kinds {H : ByteArray → Nat} {X : Nat → Prop} {tk : Option Nat} {lv : Bool} {base : Nat} {w : World} {n l b : Nat} {qs : List Pr} {F : Nat → Prop} (h : Trie H X tk lv base w n l b qs F) :
    (∃ o bk d pv kv xs, NdV base w b o bk d 0 pv kv xs [] ∧ xs.length = qs.length) ∨
    ∃ m ow S pv kv, ∃ Fs : Nat → Nat → Prop, n = m + 1 ∧ Inn base w b ow S pv kv ∧ (∀ c, c < 32 → SlotIs (fun k qs G => Trie H X tk lv base w m (l + 1) k qs G) (S c) (sub H l c qs) (Fs c)) ∧ fm S.K 32 ≠ [] := by
  cases n with
  | zero =>
    obtain ⟨ow, pv, kv, lo, hB, -, -⟩ := h
    exact .inl ⟨_, _, _, _, _, _, hB.1, rfl⟩
  | succ m =>
    obtain ⟨ow, pv, kv, lo, S, Fs, hI, -, -, hS⟩ := h
    by_cases hk : fm S.K 32 = []
    · obtain ⟨d, nn, hN, hd, hn⟩ := hI
      have h0 := (fm_nil_bits hn).1 hk
      rw [hk, h0] at hN
      exact .inl ⟨_, _, _, _, _, _, hN, ((SlotIs.of hS).leaf hk).1⟩
    · exact .inr ⟨m, ow, S, pv, kv, Fs, rfl, hI, hS, hk⟩
theorem set_look {w : World} {M b : Nat} {seen : List Nat} (h : PSet w M seen) {tb : TypeId} {cb : Array Value} (hb : Blk w b tb cb) (hn : b ∉ seen) (hl : ∀ s ∈ seen, ∃ cs, Blk w s 63 cs) :
    (Instr.lookup 66 (.map (some M)) (.pointer (some ⟨b, 0, none⟩)) true).run Try.prog w = .ok (.tuple #[.agg #[], .bool false]) w := by
  obtain ⟨j, hj, hs⟩ := info98
  refine PMap.look_none h Try.underlying66 Try.underlying29 hj hs (zero103 w) hb (fun p hp => ?_) (fun p hp => ?_)
  · obtain ⟨s, hs, rfl⟩ := List.mem_map.1 hp
    exact fun e => hn (e ▸ hs)
  · obtain ⟨s, hs, rfl⟩ := List.mem_map.1 hp
    obtain ⟨cs, h⟩ := hl s hs
    exact ⟨_, _, h⟩
theorem set_put {w : World} {M b : Nat} {seen : List Nat} (h : PSet w M seen) {tb : TypeId} {cb : Array Value} (hb : Blk w b tb cb) (hn : b ∉ seen) (hl : ∀ s ∈ seen, ∃ cs, Blk w s 63 cs) :
    ∃ w', (Instr.mapUpdate 66 (.map (some M)) (.pointer (some ⟨b, 0, none⟩)) (.agg #[])).run Try.prog w = .ok () w' ∧ PSet w' M (seen ++ [b]) ∧ Keep [M] w w' ∧ w'.heap.size = w.heap.size := by
  obtain ⟨j, hj, hs⟩ := info98
  obtain ⟨w', h1, h2, h3, h4⟩ := PMap.put_none (v := .agg #[]) h Try.underlying66 Try.underlying29 hj hs hb (fun p hp => by
    obtain ⟨s, hs, rfl⟩ := List.mem_map.1 hp
    exact fun e => hn (e ▸ hs)) (fun p hp => by
    obtain ⟨s, hs, rfl⟩ := List.mem_map.1 hp
    obtain ⟨cs, h⟩ := hl s hs
    exact ⟨_, _, h⟩)
  exact ⟨w', h1, by unfold PSet; rw [List.map_append]; exact h2, h3, h4⟩
set_option maxHeartbeats 8000000 in
theorem len_trie (H : ByteArray → Nat) (X : Nat → Prop) (tk : Option Nat) (lv : Bool) (base n l b : Nat) (ps : List Pr) (F : Nat → Prop) (w : World) (h : Trie H X tk lv base w n l b ps F) (hn : ps.length ≤ 800) (hn13 : n ≤ 13) :
    Calls Try.prog 18 #[.pointer (some ⟨b, 0, none⟩)] w fun e w' => e = .returned (.int .i64 (ps.length : Nat)) ∧ Below w.heap.size w w' := by
  obtain ⟨i0, hi, hy0, hy1, hy2⟩ := info_parts info30
  have hB1 := (Below.refl _ w).alloc (Nat.le_refl _) (.map #[] 0)
  have hm0 : PSet (w.alloc (.map #[] 0)) w.heap.size [] := PMap.new w
  have hB2 := (Below.refl _ (w.alloc (.map #[] 0))).alloc (Nat.le_refl _) (.cells #[.pointer (some ⟨b, 0, none⟩)] 29)
  have hm1 : PSet ((w.alloc (.map #[] 0)).alloc (.cells #[.pointer (some ⟨b, 0, none⟩)] 29)) w.heap.size [] := hm0.below hB2
  have hB0 := hB1.trans (hB2.mono hB1.size)
  have hrow : OwnK w.heap.size ((w.alloc (.map #[] 0)).alloc (.cells #[.pointer (some ⟨b, 0, none⟩)] 29)) (.slice (some ⟨w.heap.size + 1, 0, none⟩) 1 1) [b] :=
    ⟨rfl, .inr ⟨w.heap.size + 1, 1, #[.pointer (some ⟨b, 0, none⟩)], rfl, Nat.le_succ _, by
      have := Blk.new (w.alloc (.map #[] 0)) 29 #[.pointer (some ⟨b, 0, none⟩)]
      have e : (w.alloc (.map #[] 0)).heap.size = w.heap.size + 1 := by simp
      rw [e] at this; exact this, Nat.le_refl _, by unfold maxLen; omega, rfl, rfl⟩⟩
  have HS := Lib.hid (⟨fun e he => by rw [List.mem_singleton] at he; subst he; exact ⟨F, h⟩, List.pairwise_singleton _ _, fun _ hs => (by simp at hs), by simp⟩ : Stk H X tk lv base w ps.length [⟨b, n, l, ps⟩] [] 0)
  have hmk := run_makeMap98 w
  clear h hB1 hm0 hB2
  go_enter Try.func18, Try.ntmps18
  go_upto_region 4 with (fail)
  generalize (w.alloc (.map #[] 0)).alloc (.cells #[.pointer (some ⟨b, 0, none⟩)] 29) = W at *
  obtain ⟨M, hM⟩ : ∃ M, M = w.heap.size := ⟨_, rfl⟩
  obtain ⟨N5, hN5⟩ : ∃ N5, N5 = w.heap.size + 1 := ⟨_, rfl⟩
  rw [← hN5] at hrow ⊢
  rw [← hM] at hm1 ⊢
  have hgM : w.heap.size ≤ M := by omega
  clear hM hN5 hmk
  go_loopw [3, 5] (fun v3 v5 wr => ∃ st seen cn, LenR H X tk lv base w ps.length M st v3 v5 wr seen cn) (fun v3 v5 wr => hgt fun m => ∃ st seen cn, LenR H X tk lv base w ps.length M st v3 v5 wr seen cn ∧ wgs st = m)
  case atStart => exact ⟨_, _, _, HS.out, rfl, hrow, hm1, fun _ h => by simp at h, hB0, by
    have := Nat.mul_le_mul hn hn13
    unfold wgs Wt.wg; simp; omega⟩
  case round =>
    clear hrow hm1 hB0 HS
    obtain ⟨MM, hMM⟩ : ∃ MM, MM = hgt fun m => ∃ st seen cn, LenR H X tk lv base w ps.length M st u3 u5 wr seen cn ∧ wgs st = m := ⟨_, rfl⟩
    have hsp := hgt_spec (P := fun m => ∃ st seen cn, LenR H X tk lv base w ps.length M st u3 u5 wr seen cn ∧ wgs st = m) (by obtain ⟨st, seen, cn, h⟩ := hrel; exact ⟨_, st, seen, cn, h, rfl⟩)
    rw [← hMM] at hsp
    have HM := Lib.hid hMM
    clear hMM hrel
    obtain ⟨⟨st, seen, cn, hL, hwg⟩, -⟩ := hsp
    obtain ⟨hSt, rfl, hrow, hmp, hnd, hB, hwl⟩ := hL
    by_cases hst : st = []
    · subst hst
      obtain rfl := hSt.done
      obtain ⟨A, c, rfl⟩ := own_formN hrow
      clear hSt hrow hmp HM hwg
      go_wp2_with fail
      go_ret
      exact ⟨rfl, hB⟩
    · obtain ⟨r, e, rfl⟩ := stk_wts hst
      rw [List.map_append] at hrow
      obtain ⟨g, cap, e5, hlt5, hc5⟩ := OwnK.atK hrow r.length e.b (by simp)
      have hlen5 : (List.map (fun x => x.b) r ++ List.map (fun x => x.b) [e]).length = r.length + 1 := by simp
      rw [hlen5] at e5
      subst e5
      obtain ⟨F0, hT0⟩ := hSt.tr e (by simp)
      have hnin : e.b ∉ seen := fun hs => (hSt.sn _ hs e (by simp)).1 rfl
      have hle := hSt.le
      have hrow2 : OwnK w.heap.size wr (.slice (some ⟨g, 0, none⟩) (r.length + 1) cap) (r.map (·.b) ++ [e.b]) := hrow
      have hshort := hrow2.shorter (by simp)
      have hcap : r.length + 1 ≤ cap := by
        rcases hrow2.2 with ⟨e1, _⟩ | ⟨g', cap', cur, e1, _, _, h3, _⟩
        · cases e1
        · simp only [Value.slice.injEq, Option.some.injEq, Addr.mk.injEq, and_true, true_and] at e1
          obtain ⟨rfl, -, rfl⟩ := e1
          simpa using h3
      have hr8 : r.length ≤ 10401 := by
        have := wgs_len (r ++ [e])
        rw [List.length_append] at this
        omega
      obtain ⟨K, hK⟩ : ∃ K, K = r.length := ⟨_, rfl⟩
      obtain ⟨K1, hK1⟩ : ∃ K1, K1 = r.length + 1 := ⟨_, rfl⟩
      rw [← hK1] at hcap HM ⊢
      rw [← hK] at hc5 hshort
      have L1 : (0 : Int) < (K1 : Int) := by omega
      have L2 : IntKind.i64.wrap ((K1 : Int) - 1) = (K : Int) := by rw [IntWalk.i64_in _ (by omega)]; omega
      have L3 : (K : Int) < (K1 : Int) := by omega
      have L4 : K ≤ cap := by omega
      have HK := Lib.hid hK
      have HST := Lib.hid hSt
      have Hwl := Lib.hid hwl
      have Hwg := Lib.hid hwg
      unfold at0 at hc5
      clear hrow hrow2 hlen5 hlt5 hK hK1 hSt hwl hwg hst hr8
      rcases hT0.kinds with ⟨o, bk, d, pv, kv, xs, hN, hxl⟩ | ⟨m, ow, S, pv, kv, Fs, hem, hI, hS, hk⟩
      · have hNr := hN.below hB
        have kl := len_any _ _ _ _ _ _ _ _ _ _ wr hNr (by omega) (by simp)
        have kn := fun w' (hw : Below wr.heap.size wr w') => nodes_any _ _ _ _ _ _ _ _ _ _ w' (hNr.below hw)
        have kc := fun w' => count_any 0 w' (by decide)
        rw [cnt_zero] at kc
        have e0 : xs.length + ([] : List Nat).length = xs.length := rfl
        rw [e0] at kl
        obtain ⟨XL, hXL⟩ : ∃ XL, XL = xs.length := ⟨_, rfl⟩
        obtain ⟨C2, hC2⟩ : ∃ C2, C2 = cn + XL := ⟨_, rfl⟩
        rw [← hXL] at kl
        have L5 : IntKind.i64.wrap (XL : Int) = (XL : Int) := by rw [IntWalk.i64_in _ (by omega)]
        have L6 : IntKind.i64.wrap ((cn : Int) + (XL : Int)) = (C2 : Int) := by rw [IntWalk.i64_in _ (by omega)]; omega
        have HC := Lib.hid (⟨hXL.trans hxl, hC2⟩ : XL = e.qs.length ∧ C2 = cn + XL)
        obtain ⟨tb, cb, hblk⟩ : ∃ tb cb, Blk wr e.b tb cb := ⟨_, _, hNr.blk⟩
        unfold at0 at kl kn
        clear hxl hXL hC2 e0 hN hNr hT0 hle
        go_upto_region 7 with (fail)
        go_wp2_with fail
        refine kl.mono ?_
        rintro e' w' ⟨rfl, q1, rfl⟩
        go_wp2_with fail
        have hq1 : Below wr.heap.size wr (wr.drewN q1) := ⟨rfl, rfl, rfl, Nat.le_refl _, fun _ _ => rfl⟩
        refine (kn _ hq1).mono ?_
        rintro e' w' ⟨rfl, rfl⟩
        go_wp2_with fail
        refine (kc _).mono ?_
        rintro e' w' ⟨rfl, q2, rfl⟩
        have hq2 : Below wr.heap.size wr ((wr.drewN q1).drewN q2) := ⟨rfl, rfl, rfl, Nat.le_refl _, fun _ _ => rfl⟩
        have hrun := set_look (hmp.below hq2) (hblk.below hq2) hnin (fun s hs => by obtain ⟨cs, h⟩ := hnd s hs; exact ⟨cs, (h.below hB).below hq2⟩)
        have hB2 := hB.trans (hq2.mono hB.size)
        have hsh2 := hshort.below hq2
        have hmp2 := hmp.below hq2
        have kn2 := fun w' (hw : Below ((wr.drewN q1).drewN q2).heap.size ((wr.drewN q1).drewN q2) w') => kn w' (hq2.trans hw)
        clear kl kn kc hq1 hq2 hshort hmp hB hblk
        generalize (wr.drewN q1).drewN q2 = W2 at *
        go_wp2_with fail
        have hBa := (Below.refl _ W2).alloc (Nat.le_refl _) (.cells #[] 67)
        refine (kn2 _ hBa).mono ?_
        rintro e' w' ⟨rfl, rfl⟩
        have hB3 := hB2.trans (hBa.mono hB2.size)
        have hsh3 := hsh2.below hBa
        have hmp3 := hmp2.below hBa
        clear kn2 hB2 hsh2 hmp2 hBa hrun
        generalize W2.alloc (.cells #[] 67) = W3 at *
        go_wp2_with fail
        have hlf := HST.out.leaf (k := XL) HC.out.1
        rw [← HC.out.2] at hlf
        have hfin : LenR H X tk lv base w ps.length M r (.int .i64 (C2 : Nat)) (.slice (some ⟨g, 0, none⟩) K cap) W3 seen C2 := ⟨hlf.1, rfl, hsh3, hmp3, hnd, hB3, Nat.le_trans (Nat.le_of_lt hlf.2) Hwl.out⟩
        refine ⟨⟨r, seen, C2, hfin⟩, ?_⟩
        rw [← HM.out]
        exact Nat.lt_of_le_of_lt ((hgt_spec (P := fun m => ∃ st seen cn, LenR H X tk lv base w ps.length M st (.int .i64 (C2 : Nat)) (.slice (some ⟨g, 0, none⟩) K cap) W3 seen cn ∧ wgs st = m) ⟨_, r, seen, C2, hfin, rfl⟩).2 _ ⟨r, seen, C2, hfin, rfl⟩) (by rw [← Hwg.out]; exact hlf.2)
      · obtain ⟨hnin', hin, hlt⟩ := HST.out.inner hem hI hS hk
        obtain ⟨d, nn, hN, hbd, hbn⟩ := hI
        have hNr := hN.below hB
        have lP := fm_len_le S.P 32
        have lK := fm_len_le S.K 32
        have kl := len_any _ _ _ _ _ _ _ _ _ _ wr hNr (by omega) (by omega)
        have kn := fun w' (hw : Below w.heap.size w w') => nodes_any _ _ _ _ _ _ _ _ _ _ w' (hN.below hw)
        have kk := fun w' (hw : Below w.heap.size w w') => kids_any _ _ _ _ _ _ _ _ _ _ w' (hN.below hw) (by omega)
        have kc := fun w' => count_any nn w' hbn.lt
        rw [cnt_fm S.K hbn 32 (by omega)] at kc
        have hz0 : ¬ ((nn : Int) = 0) := fun e => hk ((fm_nil_bits hbn).2 (by omega))
        have HKB := Lib.hid (kidWts_b H m e.l e.qs S)
        have hsum := slots_sum (n := m) (SlotIs.of hS)
        obtain ⟨ks, hks⟩ : ∃ ks, ks = fm S.K 32 := ⟨_, rfl⟩
        rw [← hks] at lK kl kk kc HKB
        have hkpos : 0 < ks.length := by rw [hks]; exact List.length_pos_iff.2 hk
        obtain ⟨PL, hPL⟩ : ∃ PL, PL = (fm S.P 32).length := ⟨_, rfl⟩
        obtain ⟨KL, hKL⟩ : ∃ KL, KL = ks.length := ⟨_, rfl⟩
        obtain ⟨TL, hTL⟩ : ∃ TL, TL = PL + KL := ⟨_, rfl⟩
        obtain ⟨C2, hC2⟩ : ∃ C2, C2 = cn + PL := ⟨_, rfl⟩
        rw [← hPL, ← hKL, ← hTL] at kl
        rw [← hKL] at kc
        rw [← hPL, ← hC2] at hin
        have L5 : IntKind.i64.wrap ((TL : Int) - (KL : Int)) = (PL : Int) := by rw [IntWalk.i64_in _ (by omega)]; omega
        have L6 : IntKind.i64.wrap ((cn : Int) + (PL : Int)) = (C2 : Int) := by rw [IntWalk.i64_in _ (by omega)]; omega
        have HC := Lib.hid hKL
        have hKL32 : KL ≤ 32 := by omega
        have hK8 : K ≤ 10401 := by
          have h1 := wgs_len (r ++ [e])
          have h2 := Hwl.out
          have h3 := HK.out
          rw [List.length_append] at h1
          omega
        obtain ⟨tb, cb, hblk⟩ : ∃ tb cb, Blk w e.b tb cb := ⟨_, _, hN.blk⟩
        have hblk109 : ∃ cs, Blk w e.b 63 cs := ⟨_, hN.blk⟩
        have HIN := Lib.hid (⟨hin, hlt⟩ : _ ∧ _)
        unfold at0 at kl kn kk
        clear hin hlt hnin' hN hNr hT0 hle hbd hbn hS hk hks hPL hKL hTL hC2 hsum lP lK hem
        go_upto_region 7 with (fail)
        go_wp2_with fail
        refine kl.mono ?_
        rintro e' w' ⟨rfl, q1, rfl⟩
        go_wp2_with fail
        have hq1 : Below w.heap.size w (wr.drewN q1) := ⟨hB.os, hB.tape, hB.output, hB.size, hB.block⟩
        refine (kn _ hq1).mono ?_
        rintro e' w' ⟨rfl, rfl⟩
        go_wp2_with fail
        refine (kc _).mono ?_
        rintro e' w' ⟨rfl, q2, rfl⟩
        have hq2 : Below wr.heap.size wr ((wr.drewN q1).drewN q2) := ⟨rfl, rfl, rfl, Nat.le_refl _, fun _ _ => rfl⟩
        have hB2 := hB.trans (hq2.mono hB.size)
        have hrun := set_look (hmp.below hq2) (hblk.below hB2) hnin (fun s hs => by obtain ⟨cs, h⟩ := hnd s hs; exact ⟨cs, h.below hB2⟩)
        have hsh2 := hshort.below hq2
        have hmp2 := hmp.below hq2
        clear kl kc hq1 hq2 hshort hmp hB
        generalize (wr.drewN q1).drewN q2 = W2 at *
        go_wp2_with fail
        have hBa := (Below.refl _ W2).alloc (Nat.le_refl _) (.cells #[] 67)
        have hB3 := hB2.trans (hBa.mono hB2.size)
        refine (kn _ hB3).mono ?_
        rintro e' w' ⟨rfl, rfl⟩
        have hsh3 := hsh2.below hBa
        have hmp3 := hmp2.below hBa
        clear kn hB2 hsh2 hmp2 hBa hrun
        generalize W2.alloc (.cells #[] 67) = W3 at *
        obtain ⟨W4, hrun, hset, hkeep, hsize⟩ := set_put hmp3 (hblk.below hB3) hnin (fun s hs => by obtain ⟨cs, h⟩ := hnd s hs; exact ⟨cs, h.below hB3⟩)
        have hB34 : Below w.heap.size W3 W4 := hkeep.below hB3.size (fun x hx => by rw [List.mem_singleton] at hx; rw [hx]; exact hgM)
        have hB4 := hB3.trans hB34
        have hsh4 : OwnK w.heap.size W4 (.slice (some ⟨g, 0, none⟩) K cap) (r.map (·.b)) := own_keep hsh3 hkeep (fun x hx => by rw [List.mem_singleton] at hx; rw [hx]; exact own_ne hsh3 (fun cur => hmp3.notCells))
        clear hB34 hkeep hsize hB3 hsh3 hmp3
        go_wp2_with fail
        refine (kk _ hB4).mono ?_
        rintro e' w5 ⟨v5, rfl, hO5, hB5⟩
        obtain ⟨gk, ck, rfl⟩ : ∃ gk ck, v5 = .slice (some ⟨gk, 0, none⟩) KL ck := by
          have := HC.out
          rw [this]
          obtain ⟨g', c', cur, e1, -⟩ := own_blk hO5 hkpos
          exact ⟨g', c', e1⟩
        have hO5' : w5.ownsRow W4.heap.size 29 1 (.slice (some ⟨gk, 0, none⟩) KL ck) ks.length (kcs ks) := hO5
        have hnews := hO5'.cells (g := gk) rfl
        have hnl : (kcs ks).length = KL * 1 := by rw [kcs_len, HC.out]; omega
        have hone : ∀ u ∈ kcs ks, u.oneCell' = true := fun u hu => by
          obtain ⟨x, -, rfl⟩ := List.mem_map.1 hu
          rfl
        have hsh5 := hsh4.below hB5
        have hrow5 : w5.ownsRow w.heap.size 29 1 (.slice (some ⟨g, 0, none⟩) K cap) (r.map (·.b)).length (kcs (r.map (·.b))) := hsh5
        have hset5 := hset.below hB5
        have hB45 := hB4.trans (hB5.mono hB4.size)
        have hrl : (r.map (·.b)).length ≤ 10401 := by rw [List.length_map, ← HK.out]; exact hK8
        have hsz5 := hB45.size
        clear hO5 hO5' hsh4 hset hB4 hB5 hrun kk
        go_wp2_with (at_builtin; refine wpList_append_own_at _ rfl _ _ 59 rfl w.heap.size 29 i0 _ 1 8 Try.underlying59 hi hy0 hy1 hy2 zsz_ptr (by decide) _ _ _ rfl hrow5 ⟨gk, 0, none⟩ KL ck (kcs ks) rfl hnl hnews hone (by unfold maxLen; omega) (by omega) hsz5 ?_; intro v' wa hown' hgrow hnil hat)
        replace hgrow : w5.grownBy wa (Value.slice (some ⟨g, 0, none⟩) K cap).ownBlock := hgrow
        have kk := keep_grown hgrow
        have hset6 : PSet wa M (seen ++ [e.b]) := hset5.keep kk fun hm => by
          have hm' : (Value.slice (some ⟨g, 0, none⟩) K cap).ownBlock = some M := by simpa using hm
          exact own_ne hrow5 (fun cur => hset5.notCells) hm'
        have hB6 := hB45.grown hgrow hsz5 (own_ge hrow5)
        have hrow6 : OwnK w.heap.size wa v' ((r ++ kidWts H m e.l e.qs S).map (·.b)) := by
          rw [List.map_append, HKB.out]
          unfold OwnK
          have e1 : (r.map (·.b) ++ ks).length = (r.map (·.b)).length + KL := by rw [List.length_append, HC.out]
          have e2 : kcs (r.map (·.b) ++ ks) = kcs (r.map (·.b)) ++ kcs ks := by simp [kcs]
          rw [e1, e2]
          exact hown'
        have hfin : LenR H X tk lv base w ps.length M (r ++ kidWts H m e.l e.qs S) (.int .i64 (C2 : Nat)) v' wa (seen ++ [e.b]) C2 := ⟨HIN.out.1, rfl, hrow6, hset6, fun s hs => by
          rcases List.mem_append.1 hs with hs | hs
          · exact hnd s hs
          · rw [List.mem_singleton] at hs; rw [hs]; exact hblk109, hB6, Nat.le_trans (Nat.le_of_lt HIN.out.2) Hwl.out⟩
        refine ⟨⟨_, _, C2, hfin⟩, ?_⟩
        rw [← HM.out]
        exact Nat.lt_of_le_of_lt ((hgt_spec (P := fun m => ∃ st seen cn, LenR H X tk lv base w ps.length M st (.int .i64 (C2 : Nat)) v' wa seen cn ∧ wgs st = m) ⟨_, _, _, C2, hfin, rfl⟩).2 _ ⟨_, _, C2, hfin, rfl⟩) (by rw [← Hwg.out]; exact HIN.out.2)
theorem look_nilkey (w : World) (M cl : Nat) (h : w.heap[M]? = some (.map #[] cl)) : (Instr.lookup 66 (.map (some M)) (.pointer none) true).run Try.prog w = .ok (.tuple #[.agg #[], .bool false]) w := by
  have hf : (Instr.findKey 29 (.pointer none) []).run Try.prog w = .ok none w := by simp [Instr.findKey, run_underlying Try.underlying29, Instr.findNow]
  simp [Instr.lookup, run_underlying Try.underlying66, MapKept.run_getObj_map h, checkKey_ptr Try.underlying29, hf, zero103, Result.andThen]
set_option maxHeartbeats 2000000 in
/-- Len of nil -/
theorem len_root_nil (w : World) : Calls Try.prog 18 #[.pointer none] w fun e w' => e = .returned (.int .i64 0) ∧ Below w.heap.size w w' := by
  have hB1 := (Below.refl _ w).alloc (Nat.le_refl _) (.map #[] 0)
  have hB2 := hB1.alloc hB1.size (.cells #[.pointer none] 29)
  have hmk := run_makeMap98 w
  have hm1 : ((w.alloc (.map #[] 0)).alloc (.cells #[.pointer none] 29)).heap[w.heap.size]? = some (.map #[] 0) := (Below.heap_alloc _ _ _ (by simp)).trans (MapKept.heap_alloc w _).1
  have hrow := Blk.new (w.alloc (.map #[] 0)) 29 #[.pointer none]
  have e : (w.alloc (.map #[] 0)).heap.size = w.heap.size + 1 := by simp
  rw [e] at hrow
  clear hB1 e
  go_enter Try.func18, Try.ntmps18
  go_upto_region 4 with (fail)
  generalize (w.alloc (.map #[] 0)).alloc (.cells #[.pointer none] 29) = W at *
  obtain ⟨M, hM⟩ : ∃ M, M = w.heap.size := ⟨_, rfl⟩
  obtain ⟨N5, hN5⟩ : ∃ N5, N5 = w.heap.size + 1 := ⟨_, rfl⟩
  rw [← hN5] at hrow ⊢
  rw [← hM] at hm1 ⊢
  have c0 : W.cell? ⟨N5, 0, none⟩ = some (.pointer none) := hrow.cell 0
  clear hM hN5 hmk hrow
  have kl := fun w' => len_nil w'
  have kn := fun w' => nodes_nil w'
  have kc := fun w' => count_any 0 w' (by decide)
  rw [cnt_zero] at kc
  refine wp_loop_rounds 2 ?_
  rw [rounds_succ]
  go_wp2_with fail
  refine (kl _).mono ?_
  rintro e w' ⟨rfl, rfl⟩
  go_wp2_with fail
  refine (kn _).mono ?_
  rintro e w' ⟨rfl, rfl⟩
  go_wp2_with fail
  refine (kc _).mono ?_
  rintro e w' ⟨rfl, q, rfl⟩
  have hB3 : Below w.heap.size w (W.drewN q) := ⟨hB2.os, hB2.tape, hB2.output, hB2.size, hB2.block⟩
  have hm2 : (W.drewN q).heap[M]? = some (.map #[] 0) := hm1
  clear hB2 hm1 c0
  generalize W.drewN q = W2 at *
  have hrun := look_nilkey W2 M 0 hm2
  go_wp2_with fail
  have hB4 := hB3.alloc hB3.size (.cells #[] 67)
  refine (kn _).mono ?_
  rintro e w' ⟨rfl, rfl⟩
  clear hrun hm2 kl kn kc hB3
  generalize W2.alloc (.cells #[] 67) = W3 at *
  go_wp2_with fail
  rw [rounds_succ]
  go_wp2_with fail
  go_ret
  exact ⟨rfl, hB4⟩
end Go.Proofs.Ytfmbikmpobieoaa
