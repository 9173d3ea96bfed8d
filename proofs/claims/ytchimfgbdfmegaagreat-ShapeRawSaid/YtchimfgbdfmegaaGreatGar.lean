/- Whether a tree is the trie of its pairs: mathematics. -/
import Derived.Test.YtchimfgbdfmegaaGreatGaq
import Derived.Test.YtchimfgbdfmegaaGreatGap
namespace Go.Proofs.YtchimfgbdfmegaaGreat
open Go.RowKit Go.Lib
set_option linter.unusedVariables false
set_option linter.unusedSimpArgs false
set_option maxRecDepth 100000
attribute [local irreducible] cnt
/-- a tree d levels above the buckets, to which a way leads -/
def rightB (H : ByteArray → Nat) : Nat → RT → List Nat → Bool
  | 0, t, p => match t with
    | .bucket L => decide (2 ≤ L.length) && L.all fun q => leadsB (H q.1) p
    | _ => false
  | d + 1, t, p => match t with
    | .inner P K => (decide (p = []) || decide (¬ (nodesR K = 0 ∧ (fm P 32).length + (kidsR K).length < 2))) && (inB H P p && kidsB K fun c => rightB H d (K c) (p ++ [c]))
    | _ => false
theorem leads_snoc {h : Nat} {p : List Nat} {c : Nat} : leadsB h (p ++ [c]) = true ↔ leadsB h p = true ∧ h / 32 ^ p.length % 32 = c := by
  unfold leadsB
  rw [decide_eq_true_iff, decide_eq_true_iff]
  constructor
  · intro h1
    refine ⟨fun j hj => ?_, ?_⟩
    · have := h1 j (by rw [List.length_append]; omega)
      rwa [List.getElem_append_left hj] at this
    · have := h1 p.length (by simp)
      simpa using this
  · rintro ⟨h1, h2⟩ j hj
    rw [List.length_append] at hj
    by_cases e : j < p.length
    · rw [List.getElem_append_left e]; exact h1 j e
    · obtain rfl : j = p.length := by simp at hj; omega
      simpa using h2
theorem mask_zero {f : Nat → Bool} (h : maskTo f 32 = 0) (c : Nat) (hc : c < 32) : f c = false := by
  rw [← maskTo_bit f 32 c hc, h]; simp
theorem onep_len {qs : List Pr} (h : qs.length < 2) : (onep qs).toList.length = qs.length := by
  match qs, h with
  | [], _ => rfl
  | [p], _ => rfl
theorem many_none {qs : List Pr} : many qs = none ↔ qs.length < 2 := by
  unfold many
  split <;> simp <;> omega
theorem alone_len {H : ByteArray → Nat} {l : Nat} {ps : List Pr} (h : nodesAt H l ps = 0) : (pairsAt H l ps).length = ps.length := by
  unfold pairsAt
  rw [fm_sum, ← sub_sum (H := H) (l := l) ps]
  refine sum_congr 32 fun c hc => onep_len ?_
  have := mask_zero h c hc
  refine many_none.1 ?_
  cases e : many (sub H l c ps) with
  | none => rfl
  | some q => rw [e] at this; simp at this
theorem rightB_tree (H : ByteArray → Nat) : ∀ (d l : Nat) (ps : List Pr) (p : List Nat), p.length = l → d + l = 13 → (∀ q ∈ ps, leadsB (H q.1) p = true) → (l = 0 ∨ 2 ≤ ps.length) → rightB H d (treeOf H d l ps) p = true
  | 0, l, ps, p, hl, hd, hq, h2 => by
    show (decide (2 ≤ ps.length) && ps.all fun q => leadsB (H q.1) p) = true
    rw [Bool.and_eq_true, decide_eq_true_iff, List.all_eq_true]
    exact ⟨by omega, hq⟩
  | d + 1, l, ps, p, hl, hd, hq, h2 => by
    show (_ && (inB H _ p && kidsB _ _)) = true
    rw [Bool.and_eq_true, Bool.and_eq_true]
    refine ⟨?_, inB_true fun c q hc e => ?_, kidsB_true fun c hc e => ?_⟩
    · rw [Bool.or_eq_true, decide_eq_true_iff, decide_eq_true_iff]
      rcases h2 with h0 | h2
      · exact .inl (List.length_eq_zero_iff.1 (by omega))
      · refine .inr fun ⟨e1, e2⟩ => ?_
        rw [nodes_tree] at e1
        have h3 := alone_len e1
        unfold pairsAt at h3
        omega
    · rw [onep_some] at e
      have hm : q ∈ sub H l c ps := by rw [e]; simp
      rw [sub_mem] at hm
      exact leads_snoc.2 ⟨hq q hm.1, by rw [hl]; exact hm.2⟩
    · rw [kids_opt] at e
      cases hm : many (sub H l c ps) with
      | none => rw [hm] at e; simp at e
      | some qs =>
        simp only [hm]
        rw [many_some] at hm
        obtain ⟨rfl, h2⟩ := hm
        refine rightB_tree H d (l + 1) _ (p ++ [c]) (by simp [hl]) (by omega) (fun q hq' => ?_) (.inr h2)
        rw [sub_mem] at hq'
        exact leads_snoc.2 ⟨hq q hq'.1, by rw [hl]; exact hq'.2⟩
theorem tree_right (H : ByteArray → Nat) (ps : List Pr) : rightB H 13 (treeOf H 13 0 ps) [] = true := rightB_tree H 13 0 ps [] rfl rfl (fun q _ => by simp [leadsB]) (.inl rfl)
/-- all pairs, d levels above the buckets -/
def allR : Nat → RT → List Pr
  | _, .no => []
  | _, .bucket L => L
  | 0, .inner P K => (List.range 32).flatMap fun c => (P c).toList
  | d + 1, .inner P K => (List.range 32).flatMap fun c => (P c).toList ++ allR d (K c)
/-- buckets rise, and no place has a pair and a kid -/
def GoodR : RT → Prop
  | .no => True
  | .bucket L => RisesL L
  | .inner P K => ∀ c, c < 32 → (P c = none ∨ (K c).opt = none) ∧ GoodR (K c)
/-- not too long -/
def SmallR : RT → Prop
  | .no => True
  | .bucket L => L.length ≤ 800 ∧ ∀ p ∈ L, p.1.size ≤ 1000 ∧ p.2.size ≤ 1000
  | .inner P K => (∀ c p, P c = some p → p.1.size ≤ 1000 ∧ p.2.size ≤ 1000) ∧ ∀ c, c < 32 → SmallR (K c)
theorem SmallR.fair : ∀ (t : RT), SmallR t → FairR t
  | .no, _ => trivial
  | .bucket L, h => ⟨h.1, fun p hp => by have := h.2 p hp; omega⟩
  | .inner P K, h => ⟨fun c p e => by have := h.1 c p e; omega, fun c hc => SmallR.fair (K c) (h.2 c hc)⟩
def Mid (ps : List Pr) : Prop := ∀ p ∈ ps, p.1.size ≤ 1000 ∧ p.2.size ≤ 1000
theorem Mid.fair {ps : List Pr} (h : Mid ps) : Fair ps := fun p hp => by have := h p hp; omega
theorem Mid.sub {H : ByteArray → Nat} {l c : Nat} {ps : List Pr} (h : Mid ps) : Mid (sub H l c ps) := fun p hp => h p (sub_mem.1 hp).1
theorem tree_small (H : ByteArray → Nat) : ∀ (d l : Nat) (ps : List Pr), Mid ps → ps.length ≤ 800 → SmallR (treeOf H d l ps)
  | 0, l, ps, h, hn => ⟨hn, h⟩
  | d + 1, l, ps, h, hn => by
    refine ⟨fun c p e => ?_, fun c hc => ?_⟩
    · rw [onep_some] at e
      exact h p (sub_mem.1 (by rw [e]; simp : p ∈ sub H l c ps)).1
    · dsimp only
      cases hm : many (sub H l c ps) with
      | none => exact trivial
      | some qs =>
        rw [many_some] at hm
        obtain ⟨rfl, h2⟩ := hm
        exact tree_small H d (l + 1) _ (Mid.sub h) (Nat.le_trans sub_len hn)
theorem tree_good (H : ByteArray → Nat) : ∀ (d l : Nat) (ps : List Pr), RisesL ps → GoodR (treeOf H d l ps)
  | 0, l, ps, h => h
  | d + 1, l, ps, h => fun c hc => by
    dsimp only
    cases hm : many (sub H l c ps) with
    | none => exact ⟨.inr rfl, trivial⟩
    | some qs =>
      rw [many_some] at hm
      obtain ⟨rfl, h2⟩ := hm
      refine ⟨.inl ?_, tree_good H d (l + 1) _ (sub_rises h)⟩
      match hq : sub H l c ps, h2 with
      | _ :: _ :: _, _ => rfl
theorem all_tree (H : ByteArray → Nat) : ∀ (d l : Nat) (ps : List Pr) (q : Pr), q ∈ allR d (treeOf H d l ps) ↔ q ∈ ps
  | 0, l, ps, q => Iff.rfl
  | d + 1, l, ps, q => by
    show q ∈ (List.range 32).flatMap _ ↔ _
    rw [List.mem_flatMap]
    constructor
    · rintro ⟨c, hc, hq⟩
      rcases List.mem_append.1 hq with h | h
      · have e : onep (sub H l c ps) = some q := by simpa using h
        rw [onep_some] at e
        exact (sub_mem.1 (by rw [e]; simp : q ∈ sub H l c ps)).1
      · dsimp only at h
        cases hm : many (sub H l c ps) with
        | none => rw [hm] at h; simp [allR] at h
        | some qs =>
          rw [hm] at h
          rw [many_some] at hm
          obtain ⟨rfl, h2⟩ := hm
          exact (sub_mem.1 ((all_tree H d (l + 1) _ q).1 h)).1
    · intro hq
      have hm : q ∈ sub H l (chk H l q.1) ps := sub_mem.2 ⟨hq, rfl⟩
      refine ⟨chk H l q.1, List.mem_range.2 (chk_lt _ _ _), List.mem_append.2 ?_⟩
      dsimp only
      cases e : many (sub H l (chk H l q.1) ps) with
      | none =>
        rw [many_none] at e
        refine .inl ?_
        match hs : sub H l (chk H l q.1) ps, e with
        | [], _ => rw [hs] at hm; simp at hm
        | [x], _ =>
          rw [hs] at hm
          obtain rfl := List.mem_singleton.1 hm
          simp [onep]
      | some qs =>
        rw [many_some] at e
        obtain ⟨rfl, h2⟩ := e
        exact .inr ((all_tree H d (l + 1) _ q).2 hm)
theorem fm_nothing {α : Type} : fm (fun _ => (none : Option α)) 32 = [] := rfl
theorem mask_nothing : maskTo (fun _ => false) 32 = 0 := rfl
attribute [local irreducible] maskTo fm
theorem sum_one_le {f : Nat → Nat} {c : Nat} : ∀ n, c < n → f c ≤ ((List.range n).map f).sum
  | 0, h => by omega
  | n + 1, h => by
    rw [List.range_succ, List.map_append, List.sum_append]
    by_cases e : c = n
    · subst e; simp
    · have := sum_one_le (f := f) (c := c) n (by omega)
      omega
theorem two_of {xs : List Pr} {x y : Pr} (hx : x ∈ xs) (hy : y ∈ xs) (h : x.1 ≠ y.1) : 2 ≤ xs.length := by
  match xs, hx, hy with
  | [z], hx, hy =>
    simp at hx hy
    subst hx; subst hy
    exact absurd rfl h
  | _ :: _ :: _, _, _ => simp
theorem no_of_opt {t : RT} (h : t.opt = none) : t = .no := by
  cases t with
  | no => rfl
  | bucket L => simp [RT.opt] at h
  | inner P K => simp [RT.opt] at h
set_option maxHeartbeats 2000000 in
/-- what is right is the trie of its pairs -/
theorem right_is (H : ByteArray → Nat) : ∀ (d l : Nat) (t : RT) (p : List Nat), p.length = l → d + l = 13 → GoodR t → rightB H d t p = true →
    (∀ q ∈ allR d t, leadsB (H q.1) p = true) ∧ ((allR d t).Pairwise fun x y => x.1 ≠ y.1) ∧ (l = 0 ∨ 2 ≤ (allR d t).length) ∧
      ∀ ps, RisesL ps → (∀ q, q ∈ ps ↔ q ∈ allR d t) → encR (d + 1) t = encB H d l ps
  | 0, l, t, p, hl, hd, hg, h => by
    cases t with
    | no => simp [rightB] at h
    | inner P K => simp [rightB] at h
    | bucket L =>
      have h : (decide (2 ≤ L.length) && L.all fun q => leadsB (H q.1) p) = true := h
      rw [Bool.and_eq_true, decide_eq_true_iff, List.all_eq_true] at h
      refine ⟨h.2, ?_, .inr h.1, fun ps hr hm => ?_⟩
      · have : RisesL L := hg
        exact List.Pairwise.imp (fun {a b} h => h.ne) this
      · obtain rfl : L = ps := rises_ext hg hr fun q => (hm q).symm
        simp [encR, encB]
  | d + 1, l, t, p, hl, hd, hg, h => by
    cases t with
    | no => simp [rightB] at h
    | bucket L => simp [rightB] at h
    | inner P K =>
      have h : ((decide (p = []) || decide (¬ (nodesR K = 0 ∧ (fm P 32).length + (kidsR K).length < 2))) && (inB H P p && kidsB K fun c => rightB H d (K c) (p ++ [c]))) = true := h
      rw [Bool.and_eq_true, Bool.and_eq_true, Bool.or_eq_true, decide_eq_true_iff, decide_eq_true_iff] at h
      obtain ⟨h1, h2, h3⟩ := h
      have hP : ∀ c q, c < 32 → P c = some q → leadsB (H q.1) (p ++ [c]) = true := fun c q hc e => by
        unfold inB at h2
        rw [List.all_eq_true] at h2
        have := h2 c (List.mem_range.2 hc)
        rw [e] at this
        exact this
      have hK : ∀ c, c < 32 → (K c).opt.isSome = true → rightB H d (K c) (p ++ [c]) = true := fun c hc e => by
        unfold kidsB at h3
        rw [List.all_eq_true] at h3
        have := h3 c (List.mem_range.2 hc)
        cases e' : (K c).opt with
        | none => rw [e'] at e; cases e
        | some q => rw [e'] at this; exact this
      have hA : ∀ c, c < 32 → (K c).opt = none ∨ ((∀ q ∈ allR d (K c), leadsB (H q.1) (p ++ [c]) = true) ∧ ((allR d (K c)).Pairwise fun x y => x.1 ≠ y.1) ∧ 2 ≤ (allR d (K c)).length ∧
          ∀ ps, RisesL ps → (∀ q, q ∈ ps ↔ q ∈ allR d (K c)) → encR (d + 1) (K c) = encB H d (l + 1) ps) := fun c hc => by
        cases e : (K c).opt with
        | none => exact .inl rfl
        | some q =>
          have ih := right_is H d (l + 1) (K c) (p ++ [c]) (by simp [hl]) (by omega) (hg c hc).2 (hK c hc (by rw [e]; rfl))
          exact .inr ⟨ih.1, ih.2.1, by rcases ih.2.2.1 with h | h <;> omega, ih.2.2.2⟩
      have hl1 : ∀ c, c < 32 → ∀ q ∈ (P c).toList ++ allR d (K c), leadsB (H q.1) (p ++ [c]) = true := fun c hc q hq => by
        rcases List.mem_append.1 hq with h | h
        · exact hP c q hc (by simpa using h)
        · rcases hA c hc with e | ⟨a, _⟩
          · rw [no_of_opt e] at h; simp [allR] at h
          · exact a q h
      have hchk : ∀ c, c < 32 → ∀ q ∈ (P c).toList ++ allR d (K c), chk H l q.1 = c := fun c hc q hq => by
        have := (leads_snoc.1 (hl1 c hc q hq)).2
        rw [hl] at this
        exact this
      have hmem : ∀ q, q ∈ allR (d + 1) (.inner P K) ↔ ∃ c, c < 32 ∧ q ∈ (P c).toList ++ allR d (K c) := fun q => by
        show q ∈ (List.range 32).flatMap _ ↔ _
        rw [List.mem_flatMap]
        exact ⟨fun ⟨c, hc, h⟩ => ⟨c, List.mem_range.1 hc, h⟩, fun ⟨c, hc, h⟩ => ⟨c, List.mem_range.2 hc, h⟩⟩
      have hlen : (allR (d + 1) (.inner P K)).length = ((List.range 32).map fun c => ((P c).toList ++ allR d (K c)).length).sum := by
        show ((List.range 32).flatMap _).length = _
        rw [List.length_flatMap]
      refine ⟨fun q hq => ?_, ?_, ?_, fun ps hr hm => ?_⟩
      · obtain ⟨c, hc, h⟩ := (hmem q).1 hq
        exact (leads_snoc.1 (hl1 c hc q h)).1
      · show ((List.range 32).flatMap _).Pairwise _
        rw [List.pairwise_flatMap]
        refine ⟨fun c hc => ?_, ?_⟩
        · have hc := List.mem_range.1 hc
          rw [List.pairwise_append]
          rcases hA c hc with e | ⟨_, b, _⟩
          · rw [no_of_opt e]
            refine ⟨?_, by simp [allR], by simp [allR]⟩
            cases P c <;> simp
          · rcases (hg c hc).1 with e | e
            · rw [e]; exact ⟨by simp, b, by simp⟩
            · rw [no_of_opt e]
              refine ⟨?_, by simp [allR], by simp [allR]⟩
              cases P c <;> simp
        · refine List.Pairwise.imp_of_mem (R := fun a b => a < b) (fun {a b} ha hb hab x hx y hy e => ?_) List.pairwise_lt_range
          have h1 := hchk a (List.mem_range.1 ha) x hx
          have h2 := hchk b (List.mem_range.1 hb) y hy
          rw [e, h2] at h1
          omega
      · rcases h1 with h1 | h1
        · left; rw [← hl, h1]; rfl
        · right
          rw [hlen]
          by_cases e : ∃ c, c < 32 ∧ (K c).opt.isSome = true
          · obtain ⟨c, hc, e⟩ := e
            rcases hA c hc with e' | ⟨_, _, b, _⟩
            · rw [e'] at e; cases e
            · refine Nat.le_trans ?_ (sum_one_le (f := fun c => ((P c).toList ++ allR d (K c)).length) (c := c) 32 hc)
              simp only [List.length_append]
              omega
          · have hn : ∀ c, c < 32 → (K c).opt = none := fun c hc => by
              cases e' : (K c).opt with
              | none => rfl
              | some q => exact absurd ⟨c, hc, by rw [e']; rfl⟩ e
            have e1 : kidsR K = [] := by
              unfold kidsR
              rw [fm_congr _ (fun _ => none) 32 hn]
              exact fm_nothing
            have e2 : nodesR K = 0 := by
              unfold nodesR
              rw [maskTo_congr (g := fun _ => false) 32 fun c hc => by rw [hn c hc]; rfl]
              exact mask_nothing
            have e3 : 2 ≤ (fm P 32).length := by
              rw [e1] at h1
              simp only [List.length_nil, Nat.add_zero] at h1
              rcases Nat.lt_or_ge (fm P 32).length 2 with h | h
              · exact absurd ⟨e2, h⟩ h1
              · exact h
            refine Nat.le_trans e3 ?_
            rw [fm_sum]
            refine sum_le 32 fun c hc => ?_
            simp
      · have hsub : ∀ c, c < 32 → ∀ q, q ∈ sub H l c ps ↔ q ∈ (P c).toList ++ allR d (K c) := fun c hc q => by
          rw [sub_mem, hm, hmem]
          constructor
          · rintro ⟨⟨c', hc', h⟩, e⟩
            have := hchk c' hc' q h
            rw [this] at e
            subst e; exact h
          · intro h
            exact ⟨⟨c, hc, h⟩, hchk c hc q h⟩
        have hslot : ∀ c, c < 32 → P c = onep (sub H l c ps) ∧ ((K c).opt.map (encR (d + 1))) = (many (sub H l c ps)).map (encB H d (l + 1)) := fun c hc => by
          rcases hA c hc with e | ⟨_, b, b2, b3⟩
          · have hs := hsub c hc
            rw [no_of_opt e] at hs ⊢
            cases hp : P c with
            | none =>
              have e0 : sub H l c ps = [] := by
                rw [List.eq_nil_iff_forall_not_mem]
                intro q hq
                have := (hs q).1 hq
                rw [hp] at this
                simp [allR] at this
              rw [e0]
              exact ⟨rfl, rfl⟩
            | some x =>
              have e0 : sub H l c ps = [x] := rises_ext (sub_rises hr) (List.pairwise_singleton _ _) fun q => by
                rw [hs q, hp]; simp [allR]
              rw [e0]
              exact ⟨rfl, rfl⟩
          · have hs : (K c).opt.isSome = true := by
              cases e : (K c).opt with
              | some q => rfl
              | none => rw [no_of_opt e] at b2; simp [allR] at b2
            have hp : P c = none := by
              rcases (hg c hc).1 with e | e
              · exact e
              · rw [e] at hs; cases hs
            have hs' := hsub c hc
            rw [hp] at hs'
            simp only [Option.toList_none, List.nil_append] at hs'
            have h2 : 2 ≤ (sub H l c ps).length := by
              match ha : allR d (K c), b, b2 with
              | x :: y :: r, b, _ =>
                refine two_of (x := x) (y := y) ((hs' x).2 (by rw [ha]; simp)) ((hs' y).2 (by rw [ha]; simp)) ?_
                exact (List.pairwise_cons.1 b).1 y (by simp)
            have e1 : onep (sub H l c ps) = none := by
              match hq : sub H l c ps, h2 with
              | _ :: _ :: _, _ => rfl
            have e2 : many (sub H l c ps) = some (sub H l c ps) := many_some.2 ⟨rfl, h2⟩
            rw [hp, e1, e2]
            refine ⟨rfl, ?_⟩
            have e3 := b3 _ (sub_rises hr) hs'
            cases hk : K c with
            | no => rw [hk] at hs; cases hs
            | bucket L => rw [hk] at e3; simp only [RT.opt, Option.map_some, e3]
            | inner P' K' => rw [hk] at e3; simp only [RT.opt, Option.map_some, e3]
        show 0 :: (fourB (dataR P) ++ (fourB (nodesR K) ++ (pairsB (fm P 32) ++ (kidsR K).flatMap (encR (d + 1))))) = _
        rw [encB_succ]
        have e1 : dataR P = dataAt H l ps := maskTo_congr 32 fun c hc => by rw [(hslot c hc).1]
        have e2 : nodesR K = nodesAt H l ps := maskTo_congr 32 fun c hc => by
          have := congrArg Option.isSome (hslot c hc).2
          simpa using this
        have e3 : fm P 32 = pairsAt H l ps := fm_congr _ _ 32 fun c hc => (hslot c hc).1
        have e4 : (kidsR K).flatMap (encR (d + 1)) = (kidsAt H l ps).flatMap (encB H d (l + 1)) := by
          unfold kidsR kidsAt
          rw [List.flatMap_def, List.flatMap_def, ← fm_map, ← fm_map]
          congr 1
          exact fm_congr _ _ 32 fun c hc => (hslot c hc).2
        rw [e1, e2, e3, e4]
theorem fm_get_two {α β : Type} {f : Nat → Option α} {g : Nat → Option β} {R : α → β → Prop} : ∀ n, (∀ i, i < n → (f i).isSome = (g i).isSome) → All2 R (fm f n) (fm g n) → ∀ i, i < n → (f i = none ∧ g i = none) ∨ ∃ a b, f i = some a ∧ g i = some b ∧ R a b
  | 0, _, _, i, hi => by omega
  | n + 1, h, hF, i, hi => by
    rw [fm_succ, fm_succ] at hF
    have hl := fm_len_same n (fun i hi => h i (by omega))
    have hs := h n (by omega)
    cases hf : f n with
    | none =>
      cases hg : g n with
      | some b => rw [hf, hg] at hs; simp at hs
      | none =>
        rw [hf, hg] at hF
        simp only [Option.toList_none, List.append_nil] at hF
        by_cases e : i = n
        · subst e; exact .inl ⟨hf, hg⟩
        · exact fm_get_two n (fun i hi => h i (by omega)) hF i (by omega)
    | some a =>
      cases hg : g n with
      | none => rw [hf, hg] at hs; simp at hs
      | some b =>
        rw [hf, hg] at hF
        simp only [Option.toList_some] at hF
        obtain ⟨h1, h2⟩ := forall2_snoc hF
        by_cases e : i = n
        · subst e; exact .inr ⟨a, b, hf, hg, h2⟩
        · exact fm_get_two n (fun i hi => h i (by omega)) h1 i (by omega)
theorem list_split {α β : Type} {f : α → List Nat} {g : β → List Nat} {R : α → β → Prop} : ∀ {Ks : List α} {Ls : List β} {r r' : List Nat}, (∀ k ∈ Ks, ∀ m ∈ Ls, ∀ r r', f k ++ r = g m ++ r' → R k m ∧ r = r') → Ks.length = Ls.length → Ks.flatMap f ++ r = Ls.flatMap g ++ r' → All2 R Ks Ls ∧ r = r'
  | [], [], r, r', _, _, h => ⟨trivial, h⟩
  | [], _ :: _, _, _, _, hl, _ => by simp at hl
  | _ :: _, [], _, _, _, hl, _ => by simp at hl
  | k :: Ks, m :: Ls, r, r', hi, hl, h => by
    simp only [List.flatMap_cons, List.append_assoc] at h
    obtain ⟨e1, h3⟩ := hi k (by simp) m (by simp) _ _ h
    obtain ⟨e2, h4⟩ := list_split (Ks := Ks) (Ls := Ls) (fun x hx y hy => hi x (by simp [hx]) y (by simp [hy])) (by simpa using hl) h3
    exact ⟨⟨e1, e2⟩, h4⟩
theorem mid_pairs {P : Nat → Option Pr} (h : ∀ c p, P c = some p → p.1.size ≤ 1000 ∧ p.2.size ≤ 1000) : Fair (fm P 32) := fun p hp => by
  obtain ⟨c, _, e⟩ := fm_mem.1 hp
  have := h c p e
  omega
theorem opt_self {t u : RT} (h : t.opt = some u) : t = u ∧ u.opt = some u := by
  cases t with
  | no => simp [RT.opt] at h
  | bucket L => simp only [RT.opt, Option.some.injEq] at h; subst h; exact ⟨rfl, rfl⟩
  | inner P K => simp only [RT.opt, Option.some.injEq] at h; subst h; exact ⟨rfl, rfl⟩
set_option maxHeartbeats 2000000 in
/-- what looks as the trie of some pairs is right -/
theorem looks_right (H : ByteArray → Nat) : ∀ (d l : Nat) (t : RT) (ps : List Pr) (r r' : List Nat), d + l = 13 → t.opt = some t → SmallR t → Mid ps → ps.length ≤ 800 → encR (d + 1) t ++ r = encB H d l ps ++ r' →
    (∀ p : List Nat, p.length = l → (∀ q ∈ ps, leadsB (H q.1) p = true) → (l = 0 ∨ 2 ≤ ps.length) → rightB H d t p = true) ∧ r = r'
  | 0, l, t, ps, r, r', hd, ht, hs, hp, hn, h => by
    cases t with
    | no => simp [RT.opt] at ht
    | inner P K => simp [encR, encB] at h
    | bucket L =>
      simp only [encR, encB, List.cons_append, List.cons.injEq, true_and, List.append_assoc] at h
      obtain ⟨e1, h3⟩ := app_split h rfl
      obtain ⟨e2, h4⟩ := pairsB_split (fun p hp => by have := hs.2 p hp; omega) hp.fair (twoB_inj (by have := hs.1; omega) (by omega) e1) h3
      subst e2
      refine ⟨fun p hl hq h2 => ?_, h4⟩
      show (decide (2 ≤ L.length) && L.all fun q => leadsB (H q.1) p) = true
      rw [Bool.and_eq_true, decide_eq_true_iff, List.all_eq_true]
      exact ⟨by omega, hq⟩
  | d + 1, l, t, ps, r, r', hd, ht, hs, hp, hn, h => by
    cases t with
    | no => simp [RT.opt] at ht
    | bucket L => simp [encR, encB] at h
    | inner P K =>
      rw [encB_succ] at h
      simp only [encR, List.cons_append, List.cons.injEq, true_and, List.append_assoc] at h
      obtain ⟨e1, h3⟩ := app_split h rfl
      obtain ⟨e2, h4⟩ := app_split h3 rfl
      have m1 : ∀ c, c < 32 → (P c).isSome = (onep (sub H l c ps)).isSome := maskTo_inj (fourB_inj (mask32 _) (mask32 _) e1)
      have m2 : ∀ c, c < 32 → ((K c).opt).isSome = (many (sub H l c ps)).isSome := maskTo_inj (fourB_inj (mask32 _) (mask32 _) e2)
      have f1 : Fair (pairsAt H l ps) := fun p hq => by
        obtain ⟨c, hc, hq⟩ := fm_mem.1 hq
        rw [onep_some] at hq
        exact hp.fair p (sub_mem.1 (by rw [hq]; simp : p ∈ sub H l c ps)).1
      obtain ⟨e3, h5⟩ := pairsB_split (mid_pairs hs.1) f1 (fm_len_same 32 m1) h4
      have hk : ∀ k ∈ kidsR K, k.opt = some k ∧ SmallR k := fun k hk => by
        obtain ⟨c, hc, e⟩ := fm_mem.1 hk
        obtain ⟨e1, e2⟩ := opt_self e
        exact ⟨e2, e1 ▸ hs.2 c hc⟩
      have hq : ∀ qs ∈ kidsAt H l ps, Mid qs ∧ qs.length ≤ 800 := fun qs hq => by
        obtain ⟨c, hc, e⟩ := fm_mem.1 hq
        rw [many_some] at e
        rw [← e.1]
        exact ⟨Mid.sub hp, Nat.le_trans sub_len hn⟩
      obtain ⟨e4, h6⟩ := list_split (R := fun k qs => ∀ p : List Nat, p.length = l + 1 → (∀ q ∈ qs, leadsB (H q.1) p = true) → (l + 1 = 0 ∨ 2 ≤ qs.length) → rightB H d k p = true)
        (fun k hk' qs hq' r r' h => looks_right H d (l + 1) k qs r r' (by omega) (hk k hk').1 (hk k hk').2 (hq qs hq').1 (hq qs hq').2 h) (fm_len_same 32 m2) h5
      have g1 := fm_get_same (R := fun a b => a = b) 32 m1 (forall2_eq e3)
      have g2 := fm_get_two 32 m2 e4
      refine ⟨fun p hl hq h2 => ?_, h6⟩
      show (_ && (inB H _ p && kidsB _ _)) = true
      rw [Bool.and_eq_true, Bool.and_eq_true]
      refine ⟨?_, inB_true fun c q hc e => ?_, kidsB_true fun c hc e => ?_⟩
      · rw [Bool.or_eq_true, decide_eq_true_iff, decide_eq_true_iff]
        rcases h2 with h0 | h2
        · exact .inl (List.length_eq_zero_iff.1 (by omega))
        · refine .inr fun ⟨a1, a2⟩ => ?_
          have a3 : nodesAt H l ps = 0 := by
            rw [← a1]
            exact (fourB_inj (mask32 _) (mask32 _) e2).symm
          have := alone_len a3
          rw [e3] at a2
          omega
      · rcases g1 c hc with ⟨a, _⟩ | ⟨x, y, a, b, rfl⟩
        · rw [a] at e; cases e
        · rw [a] at e
          obtain rfl := Option.some.inj e
          rw [onep_some] at b
          have hm : x ∈ sub H l c ps := by rw [b]; simp
          rw [sub_mem] at hm
          exact leads_snoc.2 ⟨hq x hm.1, by rw [hl]; exact hm.2⟩
      · rcases g2 c hc with ⟨a, _⟩ | ⟨x, y, a, b, hR⟩
        · rw [a] at e; cases e
        · obtain ⟨a1, -⟩ := opt_self a
          rw [a1]
          rw [many_some] at b
          obtain ⟨rfl, b2⟩ := b
          refine hR (p ++ [c]) (by simp [hl]) (fun q hq' => ?_) (.inr b2)
          rw [sub_mem] at hq'
          exact leads_snoc.2 ⟨hq q hq'.1, by rw [hl]; exact hq'.2⟩
theorem norm_all {A S : List Pr} (h : IsNorm A S) (ha : A.Pairwise fun x y => x.1 ≠ y.1) : ∀ q, q ∈ S ↔ q ∈ A := fun q => by
  rw [h.mem q]
  have key : ∀ (A : List Pr), (A.Pairwise fun x y => x.1 ≠ y.1) → ∀ q, (withKey A q.1).getLast? = some q ↔ q ∈ A := by
    intro A
    induction A with
    | nil => intro _ q; simp [withKey]
    | cons x r ih =>
      intro ha q
      rw [List.pairwise_cons] at ha
      by_cases e : x.1 = q.1
      · have h0 : withKey r q.1 = [] := by
          unfold withKey
          rw [List.filter_eq_nil_iff]
          intro y hy
          have := ha.1 y hy
          rw [e] at this
          simpa using fun h => this h.symm
        have h1 : withKey (x :: r) q.1 = [x] := by
          have : withKey (x :: r) q.1 = x :: withKey r q.1 := by unfold withKey; rw [List.filter_cons_of_pos (by simpa using e)]
          rw [this, h0]
        rw [h1]
        simp only [List.getLast?_singleton, Option.some.injEq, List.mem_cons]
        constructor
        · rintro rfl; exact .inl rfl
        · rintro (h | h)
          · exact h.symm
          · exact absurd e (ha.1 q h)
      · have h1 : withKey (x :: r) q.1 = withKey r q.1 := by unfold withKey; rw [List.filter_cons_of_neg (by simpa using e)]
        rw [h1, ih ha.2 q, List.mem_cons]
        constructor
        · exact .inr
        · rintro (h | h)
          · subst h; exact absurd rfl e
          · exact h
  exact key A ha q
theorem len_sub {α : Type} [DecidableEq α] : ∀ (xs ys : List α), xs.Nodup → (∀ x ∈ xs, x ∈ ys) → xs.length ≤ ys.length
  | [], ys, _, _ => by simp
  | x :: xs, ys, hn, h => by
    rw [List.nodup_cons] at hn
    have hx := h x (by simp)
    have ih := len_sub xs (ys.erase x) hn.2 fun y hy => (List.mem_erase_of_ne (a := y) (b := x) (by rintro rfl; exact hn.1 hy)).2 (h y (by simp [hy]))
    rw [List.length_erase_of_mem hx] at ih
    have := List.length_pos_of_mem hx
    simp only [List.length_cons]
    omega
theorem rises_nodup {S : List Pr} (h : RisesL S) : S.Nodup := List.Pairwise.imp (R := fun p q : Pr => Lt p.1 q.1) (fun {a b} h e => h.ne (congrArg Prod.fst e)) h
theorem len_of_same {A S : List Pr} (hs : RisesL S) (ha : A.Pairwise fun x y => x.1 ≠ y.1) (h : ∀ q, q ∈ S ↔ q ∈ A) : S.length = A.length := by
  have h1 : A.Nodup := List.Pairwise.imp (fun {a b} h e => absurd (congrArg Prod.fst e) h) ha
  refine Nat.le_antisymm ?_ ?_
  · exact len_sub _ _ (rises_nodup hs) fun q hq => (h q).1 hq
  · exact len_sub _ _ h1 fun q hq => (h q).2 hq
/-- canonical just if it looks as the trie of its pairs, and these are each once -/
theorem canon_is (H : ByteArray → Nat) (t : RT) (S : List Pr) (ht : t.opt = some t) (hg : GoodR t) (hs : SmallR t) (hS : IsNorm (allR 13 t) S) (hM : Mid S) (hn : S.length ≤ 800) :
    rightB H 13 t [] = (decide (S.length = (allR 13 t).length) && decide (encR 14 t = encB H 13 0 S)) := by
  rw [Bool.eq_iff_iff, Bool.and_eq_true, decide_eq_true_iff, decide_eq_true_iff]
  constructor
  · intro h
    obtain ⟨_, h2, _, h4⟩ := right_is H 13 0 t [] rfl rfl hg h
    have hm := norm_all hS h2
    exact ⟨len_of_same hS.rises h2 hm, h4 S hS.rises hm⟩
  · rintro ⟨_, h⟩
    exact (looks_right H 13 0 t S [] [] rfl ht hs hM hn (by rw [h])).1 [] rfl (fun q _ => by simp [leadsB]) (.inl rfl)
/-- a trie by another hasher -/
theorem canon_other (H G : ByteArray → Nat) (ps : List Pr) (hr : RisesL ps) (hM : Mid ps) (hn : ps.length ≤ 800) :
    rightB G 13 (treeOf H 13 0 ps) [] = decide (encB H 13 0 ps = encB G 13 0 ps) := by
  have e := encR_tree H 13 0 ps 14 (by omega)
  rw [Bool.eq_iff_iff, decide_eq_true_iff]
  constructor
  · intro h
    obtain ⟨_, h2, _, h4⟩ := right_is G 13 0 _ [] rfl rfl (tree_good H 13 0 ps hr) h
    rw [← e]
    exact h4 ps hr fun q => (all_tree H 13 0 ps q).symm
  · intro h
    exact (looks_right G 13 0 _ ps [] [] rfl (tree_opt H 13 0 ps) (tree_small H 13 0 ps hM hn) hM hn (by rw [e, h])).1 [] rfl (fun q _ => by simp [leadsB]) (.inl rfl)
end Go.Proofs.YtchimfgbdfmegaaGreat
/- Canon of package shape. -/
namespace Go.Proofs.YtchimfgbdfmegaaGreat
open Go.RowKit Go.Lib
set_option linter.unusedVariables false
set_option linter.unusedSimpArgs false
set_option maxRecDepth 100000
attribute [local irreducible] cnt
def RetBool (r : Bool) (w : World) (e : Ending) (w' : World) : Prop := e = .returned (.bool r) ∧ Below w.heap.size w w'
/-- what right answers -/
def rightC (bk : Bool) (n : Nat) (al rp rk : Bool) : Bool := (bk == decide (n = 13)) && (!(decide (0 < n) && al) && (rp && rk))
section
variable {k0 k1 m : Int} {b : Nat} {A : Option Addr} {n c : Nat} {bk al rp rk : Bool} {w : World}
set_option maxHeartbeats 4000000 in
theorem right_core (hn : n ≤ 13) (hB : ∀ w1, Below w.heap.size w w1 → Calls Tryz.prog 63 #[at0 b] w1 fun e w' => e = .returned (.bool bk) ∧ w1 = w')
    (hA : ∀ w1, Below w.heap.size w w1 → Calls Tryz.prog 64 #[at0 b] w1 (RetBool al w1))
    (hP : ∀ w1, Below w.heap.size w w1 → Calls Tryz.prog 65 #[hasherV k0 k1 m, at0 b, .slice A n c] w1 (RetBool rp w1))
    (hK : ∀ w1, Below w.heap.size w w1 → Calls Tryz.prog 66 #[hasherV k0 k1 m, at0 b, .slice A n c] w1 (RetBool rk w1)) :
    Calls Tryz.prog 37 #[hasherV k0 k1 m, at0 b, .slice A n c] w (RetBool (rightC bk n al rp rk) w) := by
  have hBl := (Below.refl _ w).alloc (Nat.le_refl _) (.cells #[.int .u64 k0, .int .u64 k1, .int .u64 m] 26)
  have b3 := Blk.new w 26 #[.int .u64 k0, .int .u64 k1, .int .u64 m]
  have kB := hB _ hBl
  have kA := hA _ hBl
  have HP := Lib.hid hP
  have HK := Lib.hid hK
  unfold hasherV at0 at *
  obtain ⟨r, hr⟩ : ∃ r, r = rightC bk n al rp rk := ⟨_, rfl⟩
  rw [← hr]
  have HR := Lib.hid hr
  unfold rightC at HR
  clear hr hB hA hP hK
  have d13 : IntKind.i64.wrap (n : Int) = (n : Int) := by rw [IntWalk.i64_in _ (by omega)]
  cases bk
  · by_cases h : n = 13
    · subst h
      obtain rfl : r = false := by rw [HR.out]; simp
      go_enter Tryz.func37, Tryz.ntmps37
      go_wp2_with fail
      generalize w.alloc (.cells #[.int .u64 k0, .int .u64 k1, .int .u64 m] 26) = W0 at *
      refine kB.mono ?_
      rintro e w' ⟨rfl, rfl⟩
      clear kA
      go_wp2_with fail
      go_ret
      exact ⟨rfl, hBl⟩
    · have L1 : ¬ (n : Int) = 13 := by omega
      by_cases h0 : 0 < n
      · have L0 : (n : Int) > 0 := by omega
        replace HR : Hid (r = (!al && (rp && rk))) := Lib.hid (by rw [HR.out]; simp [h0, h])
        clear h0 h
        go_enter Tryz.func37, Tryz.ntmps37
        go_wp2_with fail
        generalize w.alloc (.cells #[.int .u64 k0, .int .u64 k1, .int .u64 m] 26) = W0 at *
        refine kB.mono ?_
        rintro e w' ⟨rfl, rfl⟩
        go_wp2_with fail
        refine kA.mono ?_
        rintro e w2 ⟨rfl, hB1⟩
        clear kB kA
        cases al
        · skip
          have c0 : w2.cell? ⟨w.heap.size, 0, none⟩ = some (.int .u64 k0) := (b3.below hB1).cell 0
          have c1 : w2.cell? ⟨w.heap.size, 1, none⟩ = some (.int .u64 k1) := (b3.below hB1).cell 1
          have c2 : w2.cell? ⟨w.heap.size, 2, none⟩ = some (.int .u64 m) := (b3.below hB1).cell 2
          have kP := HP.out _ (hBl.trans (hB1.mono hBl.size))
          have b3' := b3.below hB1
          have hBx := hBl.trans (hB1.mono hBl.size)
          clear b3 hB1 hBl
          cases rp
          · obtain rfl : r = false := by rw [HR.out]; simp
            go_wp2_with fail
            refine kP.mono ?_
            rintro e w3 ⟨rfl, hB3⟩
            go_wp2_with fail
            go_ret
            exact ⟨rfl, hBx.trans (hB3.mono hBx.size)⟩
          · obtain rfl : r = rk := by rw [HR.out]; simp
            go_wp2_with fail
            refine kP.mono ?_
            rintro e w3 ⟨rfl, hB3⟩
            have c0 : w3.cell? ⟨w.heap.size, 0, none⟩ = some (.int .u64 k0) := (b3'.below hB3).cell 0
            have c1 : w3.cell? ⟨w.heap.size, 1, none⟩ = some (.int .u64 k1) := (b3'.below hB3).cell 1
            have c2 : w3.cell? ⟨w.heap.size, 2, none⟩ = some (.int .u64 m) := (b3'.below hB3).cell 2
            have hBy := hBx.trans (hB3.mono hBx.size)
            have kK := HK.out _ hBy
            clear hB3 b3' hBx kP
            go_wp2_with fail
            refine kK.mono ?_
            rintro e w4 ⟨rfl, hB4⟩
            go_wp2_with fail
            go_ret
            exact ⟨rfl, hBy.trans (hB4.mono hBy.size)⟩
        · obtain rfl : r = false := by rw [HR.out]; simp
          have hBx := hBl.trans (hB1.mono hBl.size)
          go_wp2_with fail
          go_ret
          exact ⟨rfl, hBx⟩
      · obtain rfl : n = 0 := by omega
        replace HR : Hid (r = (rp && rk)) := Lib.hid (by rw [HR.out]; simp)
        clear h0 h L1
        go_enter Tryz.func37, Tryz.ntmps37
        go_wp2_with fail
        generalize w.alloc (.cells #[.int .u64 k0, .int .u64 k1, .int .u64 m] 26) = W0 at *
        refine kB.mono ?_
        rintro e w' ⟨rfl, rfl⟩
        clear kA
        have hB1 := Below.refl W0.heap.size W0
        have c0 : W0.cell? ⟨w.heap.size, 0, none⟩ = some (.int .u64 k0) := (b3.below hB1).cell 0
        have c1 : W0.cell? ⟨w.heap.size, 1, none⟩ = some (.int .u64 k1) := (b3.below hB1).cell 1
        have c2 : W0.cell? ⟨w.heap.size, 2, none⟩ = some (.int .u64 m) := (b3.below hB1).cell 2
        have kP := HP.out _ (hBl.trans (hB1.mono hBl.size))
        have b3' := b3.below hB1
        have hBx := hBl.trans (hB1.mono hBl.size)
        clear b3 hB1 hBl
        cases rp
        · obtain rfl : r = false := by rw [HR.out]; simp
          go_wp2_with fail
          refine kP.mono ?_
          rintro e w3 ⟨rfl, hB3⟩
          go_wp2_with fail
          go_ret
          exact ⟨rfl, hBx.trans (hB3.mono hBx.size)⟩
        · obtain rfl : r = rk := by rw [HR.out]; simp
          go_wp2_with fail
          refine kP.mono ?_
          rintro e w3 ⟨rfl, hB3⟩
          have c0 : w3.cell? ⟨w.heap.size, 0, none⟩ = some (.int .u64 k0) := (b3'.below hB3).cell 0
          have c1 : w3.cell? ⟨w.heap.size, 1, none⟩ = some (.int .u64 k1) := (b3'.below hB3).cell 1
          have c2 : w3.cell? ⟨w.heap.size, 2, none⟩ = some (.int .u64 m) := (b3'.below hB3).cell 2
          have hBy := hBx.trans (hB3.mono hBx.size)
          have kK := HK.out _ hBy
          clear hB3 b3' hBx kP
          go_wp2_with fail
          refine kK.mono ?_
          rintro e w4 ⟨rfl, hB4⟩
          go_wp2_with fail
          go_ret
          exact ⟨rfl, hBy.trans (hB4.mono hBy.size)⟩
  · by_cases h : n = 13
    · subst h
      replace HR : Hid (r = (!al && (rp && rk))) := Lib.hid (by rw [HR.out]; simp)
      go_enter Tryz.func37, Tryz.ntmps37
      go_wp2_with fail
      generalize w.alloc (.cells #[.int .u64 k0, .int .u64 k1, .int .u64 m] 26) = W0 at *
      refine kB.mono ?_
      rintro e w' ⟨rfl, rfl⟩
      go_wp2_with fail
      refine kA.mono ?_
      rintro e w2 ⟨rfl, hB1⟩
      clear kB kA
      cases al
      · skip
        have c0 : w2.cell? ⟨w.heap.size, 0, none⟩ = some (.int .u64 k0) := (b3.below hB1).cell 0
        have c1 : w2.cell? ⟨w.heap.size, 1, none⟩ = some (.int .u64 k1) := (b3.below hB1).cell 1
        have c2 : w2.cell? ⟨w.heap.size, 2, none⟩ = some (.int .u64 m) := (b3.below hB1).cell 2
        have kP := HP.out _ (hBl.trans (hB1.mono hBl.size))
        have b3' := b3.below hB1
        have hBx := hBl.trans (hB1.mono hBl.size)
        clear b3 hB1 hBl
        cases rp
        · obtain rfl : r = false := by rw [HR.out]; simp
          go_wp2_with fail
          refine kP.mono ?_
          rintro e w3 ⟨rfl, hB3⟩
          go_wp2_with fail
          go_ret
          exact ⟨rfl, hBx.trans (hB3.mono hBx.size)⟩
        · obtain rfl : r = rk := by rw [HR.out]; simp
          go_wp2_with fail
          refine kP.mono ?_
          rintro e w3 ⟨rfl, hB3⟩
          have c0 : w3.cell? ⟨w.heap.size, 0, none⟩ = some (.int .u64 k0) := (b3'.below hB3).cell 0
          have c1 : w3.cell? ⟨w.heap.size, 1, none⟩ = some (.int .u64 k1) := (b3'.below hB3).cell 1
          have c2 : w3.cell? ⟨w.heap.size, 2, none⟩ = some (.int .u64 m) := (b3'.below hB3).cell 2
          have hBy := hBx.trans (hB3.mono hBx.size)
          have kK := HK.out _ hBy
          clear hB3 b3' hBx kP
          go_wp2_with fail
          refine kK.mono ?_
          rintro e w4 ⟨rfl, hB4⟩
          go_wp2_with fail
          go_ret
          exact ⟨rfl, hBy.trans (hB4.mono hBy.size)⟩
      · obtain rfl : r = false := by rw [HR.out]; simp
        have hBx := hBl.trans (hB1.mono hBl.size)
        go_wp2_with fail
        go_ret
        exact ⟨rfl, hBx⟩
    · have L1 : ¬ (n : Int) = 13 := by omega
      have L2 : ((n : Int) == 13) = false := by simp; omega
      obtain rfl : r = false := by rw [HR.out]; simp [h]
      clear h
      go_enter Tryz.func37, Tryz.ntmps37
      go_wp2_with fail
      generalize w.alloc (.cells #[.int .u64 k0, .int .u64 k1, .int .u64 m] 26) = W0 at *
      refine kB.mono ?_
      rintro e w' ⟨rfl, rfl⟩
      clear kA
      go_wp2_with fail
      go_ret
      exact ⟨rfl, hBl⟩
set_option maxHeartbeats 4000000 in
theorem right_bad (hn : n ≤ 13) (hb : bk ≠ decide (n = 13)) (hB : ∀ w1, Below w.heap.size w w1 → Calls Tryz.prog 63 #[at0 b] w1 fun e w' => e = .returned (.bool bk) ∧ w1 = w') :
    Calls Tryz.prog 37 #[hasherV k0 k1 m, at0 b, .slice A n c] w (RetBool false w) := by
  have hBl := (Below.refl _ w).alloc (Nat.le_refl _) (.cells #[.int .u64 k0, .int .u64 k1, .int .u64 m] 26)
  have b3 := Blk.new w 26 #[.int .u64 k0, .int .u64 k1, .int .u64 m]
  have kB := hB _ hBl
  unfold hasherV at0 at *
  clear hB
  have d13 : IntKind.i64.wrap (n : Int) = (n : Int) := by rw [IntWalk.i64_in _ (by omega)]
  cases bk
  · by_cases h : n = 13
    · subst h
      clear hb
      go_enter Tryz.func37, Tryz.ntmps37
      go_wp2_with fail
      generalize w.alloc (.cells #[.int .u64 k0, .int .u64 k1, .int .u64 m] 26) = W0 at *
      refine kB.mono ?_
      rintro e w' ⟨rfl, rfl⟩
      go_wp2_with fail
      go_ret
      exact ⟨rfl, hBl⟩
    · simp [h] at hb
  · by_cases h : n = 13
    · simp [h] at hb
    · have L1 : ¬ (n : Int) = 13 := by omega
      have L2 : ((n : Int) == 13) = false := by simp; omega
      clear h hb
      go_enter Tryz.func37, Tryz.ntmps37
      go_wp2_with fail
      generalize w.alloc (.cells #[.int .u64 k0, .int .u64 k1, .int .u64 m] 26) = W0 at *
      refine kB.mono ?_
      rintro e w' ⟨rfl, rfl⟩
      go_wp2_with fail
      go_ret
      exact ⟨rfl, hBl⟩
end
theorem NdV.keeps {base : Nat} {w w' : World} {b : Nat} {o : Value} {bk : Bool} {d nn : Nat} {pv kv : Value} {xs : List Pr} {ks : List Nat} (h : NdV base w b o bk d nn pv kv xs ks) (hb : Below w.heap.size w w') : NdV base w' b o bk d nn pv kv xs ks := h.below hb
theorem nodes_nothing : nodesR (fun _ => RT.no) = 0 := by
  unfold nodesR
  exact mask_nothing
theorem kids_none (k0 k1 m : Int) (nb b d : Nat) (bk : Bool) (ow pv kv : Value) (xs : List Pr) (p : List Nat) (v : Value) (w : World) (hN : NdV nb w b ow bk d 0 pv kv xs []) (ho : OwnI 0 w v p) (hp : p.length ≤ 13) :
    Calls Tryz.prog 66 #[hasherV k0 k1 m, at0 b, v] w (RetBool (kidsB (fun _ => .no) fun _ => false) w) := by
  refine callsIn_wide.1 (rightKids_any k0 k1 m nb b d bk ow pv kv (fun _ => .no) (fun _ => none) xs _ p v w ?_ (fun c hc => .inl ⟨rfl, rfl⟩) (fun c hc k v w hn _ => hn.elim) ho hp)
  rw [nodes_nothing]
  exact hN
/-- right, of any tree in memory -/
theorem right_any (k0 k1 m : Int) (h0 : U64 k0) (h1 : U64 k1) (nb : Nat) : ∀ (d : Nat) (t : RT) (b : Nat) (p : List Nat) (v : Value) (w : World), NdR nb w t b → SmallR t → OwnI 0 w v p → p.length + d = 13 →
    Calls Tryz.prog 37 #[hasherV k0 k1 m, at0 b, v] w (RetBool (rightB (hz k0 k1 m) d t p) w) := by
  intro d
  induction d with
  | zero =>
    intro t b p v w hN hs ho hp
    obtain ⟨A, c, rfl⟩ := own_formN ho
    cases t with
    | no => exact hN.elim
    | bucket L =>
      obtain ⟨ow, pv, kv, hN⟩ := hN
      have e : rightB (hz k0 k1 m) 0 (.bucket L) p = rightC true p.length (decide (0 = 0 ∧ L.length + ([] : List Nat).length < 2)) (L.all fun q => leadsB (hz k0 k1 m q.1) p) (kidsB (fun _ => .no) fun _ => false) := by
        have e1 : kidsB (fun _ => RT.no) (fun _ => false) = true := kidsB_true fun c hc h => by simp [RT.opt] at h
        rw [e1]
        have e2 : p.length = 13 := by omega
        show (decide (2 ≤ L.length) && L.all fun q => leadsB (hz k0 k1 m q.1) p) = _
        unfold rightC
        rw [e2]
        by_cases h2 : 2 ≤ L.length
        · have : ¬ L.length < 2 := by omega
          simp [h2, this]
        · have : L.length < 2 := by omega
          simp [h2, this]
      rw [e]
      refine right_core (by omega) (fun w1 hb => isBucket_any _ _ _ _ _ _ _ _ _ _ w1 (hN.keeps hb)) (fun w1 hb => alone_any _ _ _ _ _ _ _ _ _ _ w1 (hN.keeps hb) hs.1 (by simp) (by decide))
        (fun w1 hb => rightPairs_bucket k0 k1 m nb b ow pv kv L p _ w1 (hN.keeps hb) hs.1 (fun q hq => (hs.2 q hq).1) h0 h1 (ho.below hb) (by omega)) (fun w1 hb => ?_)
      refine kids_none k0 k1 m nb b 0 true ow pv kv L p _ w1 (hN.keeps hb) (ho.below hb) (by omega)
    | inner P K =>
      obtain ⟨ow, pv, kv, kb, hN, -⟩ := hN
      exact right_bad (by omega) (by simp; omega) (fun w1 hb => isBucket_any _ _ _ _ _ _ _ _ _ _ w1 (hN.keeps hb))
  | succ d ih =>
    intro t b p v w hN hs ho hp
    obtain ⟨A, c, rfl⟩ := own_formN ho
    cases t with
    | no => exact hN.elim
    | bucket L =>
      obtain ⟨ow, pv, kv, hN⟩ := hN
      exact right_bad (by omega) (by simp; omega) (fun w1 hb => isBucket_any _ _ _ _ _ _ _ _ _ _ w1 (hN.keeps hb))
    | inner P K =>
      obtain ⟨ow, pv, kv, kb, hN, hk⟩ := hN
      have hle : (fm kb 32).length ≤ 32 := fm_len_le kb 32
      have hlen : (fm kb 32).length = (kidsR K).length := fm_len_same 32 fun c hc => by
        rcases hk c hc with ⟨a, b⟩ | ⟨k, a, b, _⟩ <;> rw [a, b] <;> rfl
      have e : rightB (hz k0 k1 m) (d + 1) (.inner P K) p = rightC false p.length (decide (nodesR K = 0 ∧ (fm P 32).length + (fm kb 32).length < 2)) (inB (hz k0 k1 m) P p) (kidsB K fun c => rightB (hz k0 k1 m) d (K c) (p ++ [c])) := by
        show ((decide (p = []) || decide (¬ (nodesR K = 0 ∧ (fm P 32).length + (kidsR K).length < 2))) && (inB (hz k0 k1 m) P p && kidsB K fun c => rightB (hz k0 k1 m) d (K c) (p ++ [c]))) = _
        rw [hlen]
        unfold rightC
        have e1 : decide (p.length = 13) = false := by simp; omega
        rw [e1]
        by_cases hp0 : p = []
        · subst hp0; simp
        · have : 0 < p.length := List.length_pos_iff.2 hp0
          simp only [hp0, this, decide_false, decide_true, Bool.true_and, Bool.false_or, beq_self_eq_true, decide_not]
      rw [e]
      refine right_core (by omega) (fun w1 hb => isBucket_any _ _ _ _ _ _ _ _ _ _ w1 (hN.keeps hb)) (fun w1 hb => alone_any _ _ _ _ _ _ _ _ _ _ w1 (hN.keeps hb) (Nat.le_trans (fm_len_le P 32) (by omega)) hle (nodesR_lt K))
        (fun w1 hb => callsIn_wide.1 (rightPairs_in k0 k1 m nb b ow pv kv P (nodesR K) _ p _ w1 (hN.keeps hb) (fun c q hq => (hs.1 c q hq).1) h0 h1 (ho.below hb) (by omega)))
        (fun w1 hb => callsIn_wide.1 (rightKids_any k0 k1 m nb b _ false ow pv kv K kb _ _ p _ w1 (hN.keeps hb) (fun c hc => ?_) (fun c hc k v w2 hn ho2 => ih (K c) k (p ++ [c]) v w2 hn (hs.2 c hc) ho2 (by simp; omega)) (ho.below hb) (by omega)))
      rcases hk c hc with h | ⟨k, a, b, h⟩
      · exact .inl h
      · exact .inr ⟨k, a, b, NdR.below _ h hb⟩
set_option maxHeartbeats 2000000 in
/-- Canon -/
theorem canon_any (k0 k1 m : Int) (h0 : U64 k0) (h1 : U64 k1) (nb : Nat) (t : RT) (b : Nat) (w : World) (hN : NdR nb w t b) (hs : SmallR t) :
    Calls Tryz.prog 15 #[hasherV k0 k1 m, at0 b] w (RetBool (rightB (hz k0 k1 m) 13 t []) w) := by
  have hBl := (Below.refl _ w).alloc (Nat.le_refl _) (.cells #[.int .u64 k0, .int .u64 k1, .int .u64 m] 26)
  have k := right_any k0 k1 m h0 h1 nb 13 t b [] (.slice none 0 0) _ (NdR.below _ hN hBl) hs (OwnI.nil 0 _) rfl
  obtain ⟨r, hr⟩ : ∃ r, r = rightB (hz k0 k1 m) 13 t [] := ⟨_, rfl⟩
  rw [← hr] at k ⊢
  unfold hasherV at0 at *
  clear hN hs hr
  go_enter Tryz.func15, Tryz.ntmps15
  go_wp2_with fail
  refine k.mono ?_
  rintro e w2 ⟨rfl, hB2⟩
  have hB := hBl.trans (hB2.mono hBl.size)
  clear k hBl hB2
  go_wp2_with fail
  go_ret
  exact ⟨rfl, hB⟩
theorem canon_nil (k0 k1 m : Int) (w : World) : Calls Tryz.prog 15 #[hasherV k0 k1 m, .pointer none] w (RetBool false w) := by
  have hBl := (Below.refl _ w).alloc (Nat.le_refl _) (.cells #[.int .u64 k0, .int .u64 k1, .int .u64 m] 26)
  unfold hasherV at *
  go_enter Tryz.func15, Tryz.ntmps15
  go_wp2_with fail
  go_ret
  exact ⟨rfl, hBl⟩
end Go.Proofs.YtchimfgbdfmegaaGreat
/- Tries that keep away from some blocks; a read on which another operation waits. -/
namespace Go.Proofs.YtchimfgbdfmegaaGreat
open Go.RowKit Go.Lib
set_option linter.unusedVariables false
set_option maxRecDepth 100000
set_option linter.unusedSimpArgs false
set_option maxRecDepth 100000
attribute [local irreducible] cnt
section
variable {P : Program} {ops : Array Oper} {Q : Exit → Act → World → Prop} {md : Region.Mode} {S : World → Prop} {st mid : Nat}
theorem wpAnyL_first2 {i : Nat} {oi : Oper} {v : Value} (hi : ops[i]? = some oi) (hsel : ∀ (j : Nat) (o : Oper) cs b, ops[j]? = some o → o.op ≠ .select cs b)
    (hQ : ∀ c a w, Q (.panic c) (a.put oi.dst v) w → Q (.panic c) a w) (hne : i ≠ st) (hw1 : waits md ops mid i = true) (hw2 : waits md ops st mid = true) :
    ∀ (fuel : Nat) (listed : Array Bool) (a : Act) (w : World),
      (∀ j oj, ops[j]? = some oj → j ≠ i → listed.getD j true = false → (∀ e ∈ oj.after, Region.binds md e = true → e.on ≠ i) → oi.apart ops oj = true) →
      i ∈ Region.ready md ops listed → listed.getD st true = false → listed.getD mid true = false → YieldsIf P ops S oi v a → S w →
      wpAnyL P md ops Q S st fuel (listed.setIfInBounds i true) (a.put oi.dst v) w → wpAnyL P md ops Q S st (fuel + 1) listed a w := by
  intro fuel
  induction fuel with
  | zero =>
    intro listed a w _ hr hst hmid hy hS H
    refine ⟨fun h => (by rw [h] at hr; cases hr), fun j hj => ?_⟩
    by_cases hji : j = i
    · subst hji; exact hy.wpOp hi hS ⟨fun _ => hS, H⟩
    · have := ready_mono hj hji
      rw [H.1] at this
      cases this
  | succ fuel ih =>
    intro listed a w hfree hr hst hmid hy hS H
    refine ⟨fun h => (by rw [h] at hr; cases hr), fun j hj => ?_⟩
    have h0 := (mem_ready.1 hr).1
    by_cases hji : j = i
    · subst hji; exact hy.wpOp hi hS ⟨fun _ => hS, H⟩
    · have hjs : j ≠ st := by
        rintro rfl
        exact waits_not hw2 hmid hj
      have hjm : j ≠ mid := by
        rintro rfl
        exact waits_not hw1 (by simpa using h0) hj
      have h1 := H.2 j (ready_mono hj hji)
      obtain ⟨hjun, oj, hoj, hall⟩ := mem_ready.1 hj
      have hnot : ∀ e ∈ oj.after, Region.binds md e = true → e.on ≠ i := fun e he hb heq => by
        have h1 := hall e he hb
        rw [heq] at h1
        rcases Nat.lt_or_ge i listed.size with h' | h'
        · simp [h'] at h0 h1; rw [h0] at h1; cases h1
        · simp [Array.getElem?_eq_none h'] at h1
      have h2 := wpOp_putIf hoj (hfree j oj hoj hji hjun hnot) (fun cs b => hsel i oi cs b hi) (fun cs b => hsel j oj cs b hoj) hQ hy h1
      have hfree' : ∀ k ok, ops[k]? = some ok → k ≠ i → (listed.setIfInBounds j true).getD k true = false →
          (∀ e ∈ ok.after, Region.binds md e = true → e.on ≠ i) → oi.apart ops ok = true := fun k ok hk hki hun hno => by
        refine hfree k ok hk hki ?_ hno
        by_cases hjk : j = k
        · subst hjk; exact hjun
        · rw [getD_set_ne true hjk] at hun; exact hun
      have hst2 : (listed.setIfInBounds j true).getD st true = false := by rw [getD_set_ne true hjs]; exact hst
      have hmid2 : (listed.setIfInBounds j true).getD mid true = false := by rw [getD_set_ne true hjm]; exact hmid
      have hst3 : ((listed.setIfInBounds i true).setIfInBounds j true).getD st true = false := by rw [getD_set_ne true hjs, getD_set_ne true hne]; exact hst
      refine wpOp_mono (fun a' w' h3 => ⟨fun _ => h3.2.1 hst3, ih (listed.setIfInBounds j true) a' w' hfree' (ready_mono hr (Ne.symm hji)) hst2 hmid2 h3.1 (h3.2.1 hst3) ?_⟩) h2
      rw [Array.setIfInBounds_comm _ _ hji]
      exact h3.2.2
/-- a read for which an operation waits that st waits for -/
theorem wpAnyL_take2 {i : Nat} {oi : Oper} {v : Value} {fuel : Nat} {listed : Array Bool} {a : Act} {w : World} (mid : Nat) (hi : ops[i]? = some oi)
    (hs : Region.noSelect ops = true) (hf : Region.free md ops listed i = true) (hr : (Region.ready md ops listed).contains i = true)
    (hk : (decide (i ≠ st) && waits md ops mid i && waits md ops st mid && !(listed.getD st true) && !(listed.getD mid true)) = true)
    (hQ : ∀ c a w, Q (.panic c) (a.put oi.dst v) w → Q (.panic c) a w) (hS : S w) (hy : YieldsIf P ops S oi v a)
    (h : wpAnyL P md ops Q S st fuel (listed.setIfInBounds i true) (a.put oi.dst v) w) : wpAnyL P md ops Q S st (fuel + 1) listed a w := by
  simp only [Bool.and_eq_true, decide_eq_true_eq, Bool.not_eq_true'] at hk
  exact wpAnyL_first2 hi (Region.noSelect_spec hs) hQ hk.1.1.1.1 hk.1.1.1.2 hk.1.1.2 fuel listed a w (Region.free_spec hi hf) (by simpa using hr) hk.1.2 hk.2 hy hS h
end
/-- blocks from which a trie keeps away -/
theorem Trie.setX {H : ByteArray → Nat} {base : Nat} {w : World} {X X' : Nat → Prop} (hX : ∀ x, X' x → X x ∨ w.heap.size ≤ x ∨ ∃ t cs, Blk w x t cs ∧ t ≠ 100 ∧ t ≠ 52 ∧ t ≠ 29 ∧ t ≠ 107) : ∀ (n l b : Nat) (ps : List Pr) (F : Nat → Prop), Trie H X none false base w n l b ps F → Trie H X' none false base w n l b ps (fun _ => False)
  | 0, l, b, ps, F, h => by
    obtain ⟨ow, pv, kv, lo, hB, hv, hN⟩ := h
    have hn := hN.no (by simp [ownB])
    refine ⟨ow, pv, kv, lo, hB, ⟨hv.tv, fun t e hx => by
    subst e
    rcases hX t hx with h | h | ⟨_, _, h, _, _, _, h4⟩
    · exact hv.no t rfl h
    · have := hv.tv.old; omega
    · exact hv.tv.noTy h h4 rfl⟩, fun e => by simp [ownB] at e, fun _ => ⟨fun x hx hx' => ?_, fun _ h => h, fun _ _ _ h => h⟩⟩
    rcases hX x hx' with h | h | ⟨t, cs, h, h1, h2, h3, -⟩
    · exact hn.1 x hx h
    · have := hB.1.footLt x hx; omega
    · exact hB.1.noTy h h1 h2 h3 x hx rfl
  | n + 1, l, b, ps, F, h => by
    obtain ⟨ow, pv, kv, lo, S, Fs, hI, hv, hN, hS⟩ := h
    have hn := hN.no (by simp [ownB])
    refine ⟨ow, pv, kv, lo, S, fun _ _ => False, hI, ⟨hv.tv, fun t e hx => by
    subst e
    rcases hX t hx with h | h | ⟨_, _, h, _, _, _, h4⟩
    · exact hv.no t rfl h
    · have := hv.tv.old; omega
    · exact hv.tv.noTy h h4 rfl⟩, ⟨fun e => by simp [ownB] at e, fun _ => ⟨fun x hx hx' => ?_, fun _ h => h, fun _ _ _ h => h⟩⟩, fun c hc => ?_⟩
    · rcases hX x hx' with h | h | ⟨t, cs, h, h1, h2, h3, -⟩
      · exact hn.1 x hx h
      · have := hI.footLt x hx; omega
      · obtain ⟨d, nn, hN', -, -⟩ := hI
        exact hN'.noTy h h1 h2 h3 x hx rfl
    have := hS c hc
    unfold SlotIs at this ⊢
    cases hs : S c with
    | no => rw [hs] at this; exact ⟨this.1, fun _ h => h⟩
    | pr p => rw [hs] at this; exact ⟨this.1, fun _ h => h⟩
    | kd k => rw [hs] at this; exact ⟨this.1, Trie.setX hX n (l + 1) k _ _ this.2⟩
/-- a trie that keeps away from X -/
def TX (X : Nat → Prop) (k0 k1 m : Int) (base : Nat) (w : World) (b : Nat) (ps : List Pr) : Prop := Trie (hz k0 k1 m) X none false base w 13 0 b ps (fun _ => False)
section
variable {X X' : Nat → Prop} {k0 k1 m : Int} {base : Nat} {w w' : World} {b : Nat} {ps : List Pr}
theorem TX.below (h : TX X k0 k1 m base w b ps) (hb : Below w.heap.size w w') : TX X k0 k1 m base w' b ps := Trie.below h hb
theorem TX.set (h : TX X k0 k1 m base w b ps) (hX : ∀ x, X' x → X x ∨ w.heap.size ≤ x ∨ ∃ t cs, Blk w x t cs ∧ t ≠ 100 ∧ t ≠ 52 ∧ t ≠ 29 ∧ t ≠ 107) : TX X' k0 k1 m base w b ps := Trie.setX hX _ _ _ _ _ h
theorem TP.tx (h : TP k0 k1 m base w b ps) (hX : ∀ x, X' x → w.heap.size ≤ x ∨ ∃ t cs, Blk w x t cs ∧ t ≠ 100 ∧ t ≠ 52 ∧ t ≠ 29 ∧ t ≠ 107) : TX X' k0 k1 m base w b ps := Trie.setX (fun x hx => .inr (hX x hx)) _ _ _ _ _ h
theorem TX.keep (h : TX X k0 k1 m base w b ps) (hk : KeepF X w w') (hX : ∀ x, X x → ∀ cs, ¬ Blk w x 107 cs) : TX X k0 k1 m base w' b ps :=
  Trie.keep (fun t l hv => hv.keepF hk hX) 13 0 b ps _ X h hk (fun _ _ h => h) (fun _ h => h)
theorem cx_X (hb : base ≤ w.heap.size) (hX : ∀ x, X x → x < w.heap.size) : Cx X none false base w := ⟨TV.nil _, fun h => by simp at h, fun _ x hx h => by have := hX x h; omega, hb, fun h => by simp at h⟩
theorem ChPost.tx {b1 : Nat} (h : ChPost (hz k0 k1 m) X none false base 13 0 ps (fun _ => False) w b1 w') : TX X k0 k1 m base w' b1 ps ∧ Below w.heap.size w w' := by
  obtain ⟨F', hT, hK, -, -⟩ := h
  exact ⟨Trie.setX (fun x hx => .inl hx) _ _ _ _ _ hT, hK.below fun _ h => h⟩
theorem put_X (p : Pr) (h0 : U64 k0) (h1 : U64 k1) (hs : p.1.size ≤ 1000) (hb : base ≤ w.heap.size) (hX : ∀ x, X x → x < w.heap.size) (h : TX X k0 k1 m base w b ps) (hr : RisesL ps) (hn : ps.length ≤ 700) (hz1 : ∀ x ∈ ps, x.1.size ≤ 1000) :
    Calls Tryz.prog 28 #[.agg #[.int .u64 k0, .int .u64 k1, .int .u64 m], .pointer none, .pointer (some ⟨b, 0, none⟩), .agg #[.string p.1, .string p.2]] w fun e w' => ∃ b', e = .returned (.tuple #[.pointer (some ⟨b', 0, none⟩), .bool (getK ps p.1).isNone]) ∧ TX X k0 k1 m base w' b' (putK ps p) ∧ Below w.heap.size w w' := by
  cases hg : getK ps p.1 with
  | none =>
    refine (Put_none k0 k1 m _ none false base none p.1 p.2 b ps _ w rfl h0 h1 hs (cx_X hb hX) h hr hn hz1 hg).mono ?_
    rintro e w1 ⟨b1, rfl, hP⟩
    exact ⟨b1, rfl, hP.tx.1, hP.tx.2⟩
  | some v =>
    by_cases hv : v = p.2
    · subst hv
      refine (Put_same k0 k1 m _ none false base none p.1 p.2 b ps _ w rfl h0 h1 hs h hn hg).mono ?_
      rintro e w1 ⟨rfl, hB⟩
      exact ⟨b, rfl, by rw [put_same hr hg]; exact h.below hB, hB⟩
    · refine (Put_other k0 k1 m _ none false base none p.1 p.2 b ps _ w rfl h0 h1 hs (cx_X hb hX) h hr hn hz1 v hg hv).mono ?_
      rintro e w1 ⟨b1, rfl, hP⟩
      exact ⟨b1, rfl, hP.tx.1, hP.tx.2⟩
end
end Go.Proofs.YtchimfgbdfmegaaGreat
