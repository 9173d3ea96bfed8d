/- The bytes that a trie looks like; they tell its pairs. -/
import Derived.Test.YtchimfgbdfmegaaGreatGak
import Derived.Test.YtchimfgbdfmegaaGreatGad
import Derived.Lib.AppendStr
import Derived.Test.YtchimfgbdfmegaaGreatGaf
import Derived.BigQuiet
import Derived.Deep.RegionHeld3
namespace Go.Proofs.YtchimfgbdfmegaaGreat
open Go.RowKit Go.Lib
set_option linter.unusedVariables false
set_option maxRecDepth 100000
set_option linter.unusedSimpArgs false
set_option maxRecDepth 100000
def twoB (n : Nat) : List Nat := [n % 256, n / 256 % 256]
def fourB (n : Nat) : List Nat := [n % 256, n / 256 % 256, n / 65536 % 256, n / 16777216 % 256]
def strB (s : ByteArray) : List Nat := s.data.toList.map UInt8.toNat
def textB (s : ByteArray) : List Nat := twoB s.size ++ strB s
def pairB (p : Pr) : List Nat := textB p.1 ++ textB p.2
def pairsB (ps : List Pr) : List Nat := ps.flatMap pairB
/-- one pair alone -/
def onep (qs : List Pr) : Option Pr := match qs with | [p] => some p | _ => none
/-- two at least -/
def many (qs : List Pr) : Option (List Pr) := if 2 ≤ qs.length then some qs else none
def maskTo (f : Nat → Bool) (n : Nat) : Nat := ((List.range n).map fun c => if f c then 2 ^ c else 0).sum
def encB (H : ByteArray → Nat) : Nat → Nat → List Pr → List Nat
  | 0, l, ps => 1 :: (twoB ps.length ++ pairsB ps)
  | n + 1, l, ps => 0 :: (fourB (maskTo (fun c => (onep (sub H l c ps)).isSome) 32) ++ (fourB (maskTo (fun c => (many (sub H l c ps)).isSome) 32) ++ (pairsB (fm (fun c => onep (sub H l c ps)) 32) ++ (fm (fun c => many (sub H l c ps)) 32).flatMap (encB H n (l + 1)))))
def Fair (ps : List Pr) : Prop := ∀ p ∈ ps, p.1.size < 65536 ∧ p.2.size < 65536
theorem strB_len (s : ByteArray) : (strB s).length = s.size := by
  unfold strB
  rw [List.length_map]
  rfl
theorem strB_inj {s t : ByteArray} (h : strB s = strB t) : s = t := by
  unfold strB at h
  exact bytes_ext ((List.map_inj_right fun a b h => UInt8.toNat_inj.1 h).1 h)
theorem twoB_len (n : Nat) : (twoB n).length = 2 := rfl
theorem fourB_len (n : Nat) : (fourB n).length = 4 := rfl
theorem twoB_inj {a b : Nat} (ha : a < 65536) (hb : b < 65536) (h : twoB a = twoB b) : a = b := by
  simp only [twoB, List.cons.injEq, and_true] at h
  omega
theorem fourB_inj {a b : Nat} (ha : a < 4294967296) (hb : b < 4294967296) (h : fourB a = fourB b) : a = b := by
  simp only [fourB, List.cons.injEq, and_true] at h
  omega
theorem app_split {a b r r' : List Nat} (h : a ++ r = b ++ r') (hl : a.length = b.length) : a = b ∧ r = r' := List.append_inj h hl
theorem textB_split {s t : ByteArray} {r r' : List Nat} (hs : s.size < 65536) (ht : t.size < 65536) (h : textB s ++ r = textB t ++ r') : s = t ∧ r = r' := by
  unfold textB at h
  rw [List.append_assoc, List.append_assoc] at h
  obtain ⟨h1, h2⟩ := app_split h rfl
  have h3 := twoB_inj hs ht h1
  obtain ⟨h4, h5⟩ := app_split h2 (by rw [strB_len, strB_len, h3])
  exact ⟨strB_inj h4, h5⟩
theorem pairB_split {p q : Pr} {r r' : List Nat} (hp : p.1.size < 65536 ∧ p.2.size < 65536) (hq : q.1.size < 65536 ∧ q.2.size < 65536) (h : pairB p ++ r = pairB q ++ r') : p = q ∧ r = r' := by
  unfold pairB at h
  rw [List.append_assoc, List.append_assoc] at h
  obtain ⟨h1, h2⟩ := textB_split hp.1 hq.1 h
  obtain ⟨h3, h4⟩ := textB_split hp.2 hq.2 h2
  exact ⟨Prod.ext h1 h3, h4⟩
theorem pairsB_split : ∀ {ps qs : List Pr} {r r' : List Nat}, Fair ps → Fair qs → ps.length = qs.length → pairsB ps ++ r = pairsB qs ++ r' → ps = qs ∧ r = r'
  | [], [], r, r', _, _, _, h => ⟨rfl, h⟩
  | [], _ :: _, _, _, _, _, hl, _ => by simp at hl
  | _ :: _, [], _, _, _, _, hl, _ => by simp at hl
  | p :: ps, q :: qs, r, r', h1, h2, hl, h => by
    simp only [pairsB, List.flatMap_cons, List.append_assoc] at h
    obtain ⟨e1, h3⟩ := pairB_split (h1 p (by simp)) (h2 q (by simp)) h
    obtain ⟨e2, h4⟩ := pairsB_split (ps := ps) (qs := qs) (fun x hx => h1 x (by simp [hx])) (fun x hx => h2 x (by simp [hx])) (by simpa using hl) h3
    exact ⟨by rw [e1, e2], h4⟩
theorem maskTo_succ (f : Nat → Bool) (n : Nat) : maskTo f (n + 1) = maskTo f n + if f n then 2 ^ n else 0 := by
  simp [maskTo, List.range_succ]
theorem maskTo_lt (f : Nat → Bool) : ∀ n, maskTo f n < 2 ^ n
  | 0 => by simp [maskTo]
  | n + 1 => by
    have := maskTo_lt f n
    rw [maskTo_succ, Nat.pow_succ]
    split <;> omega
theorem maskTo_bit (f : Nat → Bool) : ∀ n i, i < n → (maskTo f n).testBit i = f i
  | 0, i, h => by omega
  | n + 1, i, h => by
    have hlt := maskTo_lt f n
    rw [maskTo_succ]
    by_cases e : i = n
    · subst e
      cases hf : f i with
      | true =>
        rw [if_pos rfl, Nat.add_comm, Nat.testBit_two_pow_add_eq, Nat.testBit_lt_two_pow hlt]; rfl
      | false =>
        rw [if_neg (by simp), Nat.add_zero, Nat.testBit_lt_two_pow hlt]
    · have hi : i < n := by omega
      have ih := maskTo_bit f n i hi
      cases hf : f n with
      | true => rw [if_pos rfl, Nat.add_comm, Nat.testBit_two_pow_add_gt hi, ih]
      | false => rw [if_neg (by simp), Nat.add_zero, ih]
theorem maskTo_inj {f g : Nat → Bool} {n : Nat} (h : maskTo f n = maskTo g n) : ∀ i, i < n → f i = g i := fun i hi => by
  rw [← maskTo_bit f n i hi, ← maskTo_bit g n i hi, h]
theorem bits_mask {d : Nat} {f : Nat → Bool} (h : BitsOf d f) : d = maskTo f 32 := by
  apply Nat.eq_of_testBit_eq
  intro i
  by_cases hi : i < 32
  · rw [h.bit i hi, maskTo_bit f 32 i hi]
  · rw [testBit_big h.lt (by omega), testBit_big (Nat.lt_of_lt_of_le (maskTo_lt f 32) (by decide)) (by omega)]
def All2 {α β : Type} (R : α → β → Prop) : List α → List β → Prop
  | [], [] => True
  | x :: xs, y :: ys => R x y ∧ All2 R xs ys
  | _, _ => False
theorem forall2_snoc {α β : Type} {R : α → β → Prop} : ∀ {xs : List α} {ys : List β} {a : α} {b : β}, All2 R (xs ++ [a]) (ys ++ [b]) → All2 R xs ys ∧ R a b
  | [], [], a, b, h => ⟨trivial, h.1⟩
  | [], y :: ys, a, b, h => by cases ys <;> exact h.2.elim
  | x :: xs, [], a, b, h => by cases xs <;> exact h.2.elim
  | x :: xs, y :: ys, a, b, h => by
    obtain ⟨h3, h4⟩ := forall2_snoc (xs := xs) (ys := ys) h.2
    exact ⟨⟨h.1, h3⟩, h4⟩
/-- lists of what is there, place by place -/
theorem fm_len_same {α β : Type} {f : Nat → Option α} {g : Nat → Option β} : ∀ n, (∀ i, i < n → (f i).isSome = (g i).isSome) → (fm f n).length = (fm g n).length
  | 0, _ => rfl
  | n + 1, h => by
    rw [fm_succ, fm_succ, List.length_append, List.length_append, fm_len_same n fun i hi => h i (by omega)]
    have := h n (by omega)
    cases hf : f n <;> cases hg : g n <;> simp [hf, hg] at this ⊢
theorem fm_get_same {α : Type} {f g : Nat → Option α} {R : α → α → Prop} : ∀ n, (∀ i, i < n → (f i).isSome = (g i).isSome) → All2 R (fm f n) (fm g n) → ∀ i, i < n → (f i = none ∧ g i = none) ∨ ∃ a b, f i = some a ∧ g i = some b ∧ R a b
  | 0, _, _, i, hi => by omega
  | n + 1, h, hF, i, hi => by
    rw [fm_succ, fm_succ] at hF
    have hl := fm_len_same n (fun i hi => h i (by omega))
    have hs := h n (by omega)
    cases hf : f n with
    | none =>
      cases hg : g n with
      | some b => rw [hf, hg] at hs; simp at hs
      | none =>
        rw [hf, hg] at hF
        simp only [Option.toList_none, List.append_nil] at hF
        by_cases e : i = n
        · subst e; exact .inl ⟨hf, hg⟩
        · exact fm_get_same n (fun i hi => h i (by omega)) hF i (by omega)
    | some a =>
      cases hg : g n with
      | none => rw [hf, hg] at hs; simp at hs
      | some b =>
        rw [hf, hg] at hF
        simp only [Option.toList_some] at hF
        obtain ⟨h1, h2⟩ := forall2_snoc hF
        by_cases e : i = n
        · subst e; exact .inr ⟨a, b, hf, hg, h2⟩
        · exact fm_get_same n (fun i hi => h i (by omega)) h1 i (by omega)
theorem onep_some {qs : List Pr} {p : Pr} : onep qs = some p ↔ qs = [p] := by
  unfold onep
  split
  · simp
  · rename_i h
    constructor
    · simp
    · rintro rfl; exact absurd rfl (h p)
theorem many_some {qs rs : List Pr} : many qs = some rs ↔ qs = rs ∧ 2 ≤ qs.length := by
  unfold many
  split
  · simp; intro _; assumption
  · simp; intro e; omega
theorem fair_sub {H : ByteArray → Nat} {l c : Nat} {ps : List Pr} (h : Fair ps) : Fair (sub H l c ps) := fun p hp => h p (sub_mem.1 hp).1
/-- the same pairs -/
def Same (ps qs : List Pr) : Prop := ∀ p, p ∈ ps ↔ p ∈ qs
theorem many_split {H : ByteArray → Nat} {n l : Nat} (ih : ∀ (l : Nat) (ps qs : List Pr) (r r' : List Nat), Fair ps → Fair qs → ps.length < 65536 → qs.length < 65536 → encB H n l ps ++ r = encB H n l qs ++ r' → Same ps qs ∧ r = r') :
    ∀ {Ks Ls : List (List Pr)} {r r' : List Nat}, (∀ k ∈ Ks, Fair k ∧ k.length < 65536) → (∀ k ∈ Ls, Fair k ∧ k.length < 65536) → Ks.length = Ls.length → Ks.flatMap (encB H n l) ++ r = Ls.flatMap (encB H n l) ++ r' → All2 Same Ks Ls ∧ r = r'
  | [], [], r, r', _, _, _, h => ⟨trivial, h⟩
  | [], _ :: _, _, _, _, _, hl, _ => by simp at hl
  | _ :: _, [], _, _, _, _, hl, _ => by simp at hl
  | k :: Ks, m :: Ls, r, r', h1, h2, hl, h => by
    simp only [List.flatMap_cons, List.append_assoc] at h
    obtain ⟨e1, h3⟩ := ih l k m _ _ (h1 k (by simp)).1 (h2 m (by simp)).1 (h1 k (by simp)).2 (h2 m (by simp)).2 h
    obtain ⟨e2, h4⟩ := many_split ih (Ks := Ks) (Ls := Ls) (fun x hx => h1 x (by simp [hx])) (fun x hx => h2 x (by simp [hx])) (by simpa using hl) h3
    exact ⟨⟨e1, e2⟩, h4⟩
theorem forall2_eq {α : Type} {xs : List α} : ∀ {ys : List α}, xs = ys → All2 (fun a b => a = b) xs ys := by
  rintro _ rfl
  induction xs with
  | nil => exact trivial
  | cons x xs ih => exact ⟨rfl, ih⟩
theorem mask32 (f : Nat → Bool) : maskTo f 32 < 4294967296 := Nat.lt_of_lt_of_le (maskTo_lt f 32) (by decide)
attribute [local irreducible] maskTo fm
theorem encB_split (H : ByteArray → Nat) : ∀ (n l : Nat) (ps qs : List Pr) (r r' : List Nat), Fair ps → Fair qs → ps.length < 65536 → qs.length < 65536 → encB H n l ps ++ r = encB H n l qs ++ r' → Same ps qs ∧ r = r'
  | 0, l, ps, qs, r, r', h1, h2, l1, l2, h => by
    simp only [encB, List.cons_append, List.cons.injEq, true_and, List.append_assoc] at h
    obtain ⟨e1, h3⟩ := app_split h rfl
    obtain ⟨e2, h4⟩ := pairsB_split h1 h2 (twoB_inj l1 l2 e1) h3
    exact ⟨fun p => by rw [e2], h4⟩
  | n + 1, l, ps, qs, r, r', h1, h2, l1, l2, h => by
    simp only [encB, List.cons_append, List.cons.injEq, true_and, List.append_assoc] at h
    obtain ⟨e1, h3⟩ := app_split h rfl
    obtain ⟨e2, h4⟩ := app_split h3 rfl
    have m1 := maskTo_inj (fourB_inj (mask32 _) (mask32 _) e1)
    have m2 := maskTo_inj (fourB_inj (mask32 _) (mask32 _) e2)
    have f1 : ∀ (xs : List Pr), Fair xs → Fair (fm (fun c => onep (sub H l c xs)) 32) := fun xs hx p hp => by
      obtain ⟨c, hc, hp⟩ := fm_mem.1 hp
      rw [onep_some] at hp
      exact hx p (sub_mem.1 (by rw [hp]; simp : p ∈ sub H l c xs)).1
    obtain ⟨e3, h5⟩ := pairsB_split (f1 ps h1) (f1 qs h2) (fm_len_same 32 m1) h4
    have f2 : ∀ (xs : List Pr), Fair xs → xs.length < 65536 → ∀ k ∈ fm (fun c => many (sub H l c xs)) 32, Fair k ∧ k.length < 65536 := fun xs hx hl k hk => by
      obtain ⟨c, hc, hk⟩ := fm_mem.1 hk
      rw [many_some] at hk
      rw [← hk.1]
      exact ⟨fair_sub hx, Nat.lt_of_le_of_lt (List.length_filter_le _ _) hl⟩
    obtain ⟨e4, h6⟩ := many_split (encB_split H n) (f2 ps h1 l1) (f2 qs h2 l2) (fm_len_same 32 m2) h5
    have g1 := fm_get_same (R := fun a b => a = b) 32 m1 (forall2_eq e3)
    have g2 := fm_get_same (R := Same) 32 m2 e4
    refine ⟨fun p => ?_, h6⟩
    have hc := chk_lt H l p.1
    have key : p ∈ sub H l (chk H l p.1) ps ↔ p ∈ sub H l (chk H l p.1) qs := by
      rcases g1 _ hc with ⟨a1, a2⟩ | ⟨x, y, a1, a2, rfl⟩
      · rcases g2 _ hc with ⟨b1, b2⟩ | ⟨x, y, b1, b2, b3⟩
        · have z : ∀ xs : List Pr, onep xs = none → many xs = none → xs = [] := fun xs u v => by
            unfold many at v
            split at v
            · simp at v
            · match xs, u with
              | [], _ => rfl
              | [p], u => simp [onep] at u
              | _ :: _ :: _, _ => rename_i hh; simp at hh
          rw [z _ a1 b1, z _ a2 b2]
        · rw [many_some] at b1 b2
          rw [b1.1, b2.1]
          exact b3 p
      · rw [onep_some] at a1 a2
        rw [a1, a2]
    rw [sub_mem, sub_mem] at key
    simpa using key
/-- how long it is -/
def Short (ps : List Pr) : Prop := ∀ p ∈ ps, p.1.size ≤ 40 ∧ p.2.size ≤ 40
theorem pairB_len (p : Pr) : (pairB p).length = p.1.size + p.2.size + 4 := by
  simp [pairB, textB, strB_len, twoB]
  omega
theorem pairsB_len : ∀ {ps : List Pr}, Short ps → (pairsB ps).length ≤ ps.length * 84
  | [], _ => by simp [pairsB]
  | p :: ps, h => by
    have h1 := h p (by simp)
    have h2 := pairsB_len (ps := ps) (fun x hx => h x (by simp [hx]))
    simp only [pairsB, List.flatMap_cons, List.length_append, pairB_len, List.length_cons] at h2 ⊢
    omega
theorem short_sub {H : ByteArray → Nat} {l c : Nat} {ps : List Pr} (h : Short ps) : Short (sub H l c ps) := fun p hp => h p (sub_mem.1 hp).1
theorem flat_len {α : Type} {f : Nat → Option α} {g : α → List Nat} {B : Nat → Nat} : ∀ n, (∀ c a, c < n → f c = some a → (g a).length ≤ B c) → ((fm f n).flatMap g).length ≤ ((List.range n).map B).sum
  | 0, _ => by simp [fm]
  | n + 1, h => by
    have ih := flat_len n fun c a hc => h c a (by omega)
    rw [fm_succ, List.flatMap_append, List.length_append, List.range_succ, List.map_append, List.sum_append]
    have : ((f n).toList.flatMap g).length ≤ B n := by
      cases hf : f n with
      | none => simp
      | some a => simpa using h n a (by omega) hf
    simp only [List.map_cons, List.map_nil, List.sum_cons, List.sum_nil, Nat.add_zero]
    omega
theorem sum_mul {f : Nat → Nat} (k : Nat) : ∀ n, ((List.range n).map fun c => f c * k).sum = ((List.range n).map f).sum * k
  | 0 => by simp
  | n + 1 => by
    rw [List.range_succ, List.map_append, List.map_append, List.sum_append, List.sum_append, sum_mul k n]
    simp [Nat.add_mul]
theorem encB_len (H : ByteArray → Nat) : ∀ (n l : Nat) (ps : List Pr), Short ps → (encB H n l ps).length ≤ 9 + ps.length * (84 + 9 * n)
  | 0, l, ps, h => by
    have := pairsB_len h
    simp only [encB, List.length_cons, List.length_append, twoB_len]
    omega
  | n + 1, l, ps, h => by
    have e1 : (pairsB (fm (fun c => onep (sub H l c ps)) 32)).length + ((fm (fun c => many (sub H l c ps)) 32).flatMap (encB H n (l + 1))).length ≤ ps.length * (84 + 9 * (n + 1)) := by
      have a1 : (pairsB (fm (fun c => onep (sub H l c ps)) 32)).length ≤ ((List.range 32).map fun c => if (sub H l c ps).length = 1 then 84 else 0).sum := by
        unfold pairsB
        refine flat_len 32 fun c p hc hp => ?_
        rw [onep_some] at hp
        have := h p (sub_mem.1 (by rw [hp]; simp : p ∈ sub H l c ps)).1
        rw [hp, pairB_len]
        simp; omega
      have a2 : ((fm (fun c => many (sub H l c ps)) 32).flatMap (encB H n (l + 1))).length ≤ ((List.range 32).map fun c => if (sub H l c ps).length < 2 then 0 else (sub H l c ps).length * (84 + 9 * (n + 1))).sum := by
        refine flat_len 32 fun c p hc hp => ?_
        rw [many_some] at hp
        obtain ⟨rfl, h2⟩ := hp
        have := encB_len H n (l + 1) (sub H l c ps) (short_sub h)
        rw [if_neg (by omega)]
        refine Nat.le_trans this ?_
        obtain ⟨k, hk⟩ : ∃ k, (sub H l c ps).length = k + 1 := ⟨(sub H l c ps).length - 1, by omega⟩
        rw [hk]
        have e : (k + 1) * (84 + 9 * (n + 1)) = (k + 1) * (84 + 9 * n) + (k + 1) * 9 := by rw [← Nat.mul_add]; congr 1
        omega
      have a3 := sub_sum (H := H) (l := l) ps
      have a4 := sum_mul (f := fun c => (sub H l c ps).length) (84 + 9 * (n + 1)) 32
      rw [a3] at a4
      rw [← a4]
      refine Nat.le_trans (Nat.add_le_add a1 a2) ?_
      rw [← sum_add]
      refine sum_le 32 fun c hc => ?_
      split <;> split <;> first | omega | skip
      · rename_i u v; rw [u]; omega
    simp only [encB, List.length_cons, List.length_append, fourB_len]
    omega
end Go.Proofs.YtchimfgbdfmegaaGreat
/- What a node of a trie tells, by its pairs alone. -/
namespace Go.Proofs.YtchimfgbdfmegaaGreat
open Go.RowKit Go.Lib
set_option linter.unusedVariables false
set_option maxRecDepth 100000
set_option linter.unusedSimpArgs false
set_option maxRecDepth 100000
attribute [local irreducible] cnt
theorem maskTo_congr {f g : Nat → Bool} : ∀ n, (∀ i, i < n → f i = g i) → maskTo f n = maskTo g n
  | 0, _ => rfl
  | n + 1, h => by rw [maskTo_succ, maskTo_succ, maskTo_congr n fun i hi => h i (by omega), h n (by omega)]
theorem all2_snoc {α β : Type} {R : α → β → Prop} {a : α} {b : β} (h : R a b) : ∀ {xs : List α} {ys : List β}, All2 R xs ys → All2 R (xs ++ [a]) (ys ++ [b])
  | [], [], _ => ⟨h, trivial⟩
  | [], _ :: _, h' => h'.elim
  | _ :: _, [], h' => h'.elim
  | x :: xs, y :: ys, h' => ⟨h'.1, all2_snoc h h'.2⟩
theorem fm_all2 {α β : Type} {R : α → β → Prop} {f : Nat → Option α} {g : Nat → Option β} : ∀ n, (∀ c, c < n → (f c = none ∧ g c = none) ∨ ∃ a b, f c = some a ∧ g c = some b ∧ R a b) → All2 R (fm f n) (fm g n)
  | 0, _ => trivial
  | n + 1, h => by
    have ih := fm_all2 n fun c hc => h c (by omega)
    rw [fm_succ, fm_succ]
    rcases h n (by omega) with ⟨h1, h2⟩ | ⟨a, b, h1, h2, h3⟩
    · rw [h1, h2]; simpa using ih
    · rw [h1, h2]; exact all2_snoc h3 ih
theorem all2_len {α β : Type} {R : α → β → Prop} : ∀ {xs : List α} {ys : List β}, All2 R xs ys → xs.length = ys.length
  | [], [], _ => rfl
  | [], _ :: _, h' => h'.elim
  | _ :: _, [], h' => h'.elim
  | x :: xs, y :: ys, h' => by simp [all2_len h'.2]
theorem all2_get {α β : Type} {R : α → β → Prop} : ∀ {xs : List α} {ys : List β}, All2 R xs ys → ∀ (j : Nat) (hx : j < xs.length) (hy : j < ys.length), R xs[j] ys[j]
  | [], [], _, j, hx, _ => by simp at hx
  | [], _ :: _, h', _, _, _ => h'.elim
  | _ :: _, [], h', _, _, _ => h'.elim
  | x :: xs, y :: ys, h', 0, _, _ => h'.1
  | x :: xs, y :: ys, h', j + 1, hx, hy => all2_get h'.2 j (by simpa using hx) (by simpa using hy)
section
variable {H : ByteArray → Nat} {X F : Nat → Prop} {tk : Option Nat} {lv : Bool} {base : Nat} {w : World}
def pairsAt (H : ByteArray → Nat) (l : Nat) (ps : List Pr) : List Pr := fm (fun c => onep (sub H l c ps)) 32
def kidsAt (H : ByteArray → Nat) (l : Nat) (ps : List Pr) : List (List Pr) := fm (fun c => many (sub H l c ps)) 32
def dataAt (H : ByteArray → Nat) (l : Nat) (ps : List Pr) : Nat := maskTo (fun c => (onep (sub H l c ps)).isSome) 32
def nodesAt (H : ByteArray → Nat) (l : Nat) (ps : List Pr) : Nat := maskTo (fun c => (many (sub H l c ps)).isSome) 32
theorem encB_succ (H : ByteArray → Nat) (n l : Nat) (ps : List Pr) : encB H (n + 1) l ps = 0 :: (fourB (dataAt H l ps) ++ (fourB (nodesAt H l ps) ++ (pairsB (pairsAt H l ps) ++ (kidsAt H l ps).flatMap (encB H n (l + 1))))) := rfl
theorem Trie.view {n l b : Nat} {ps : List Pr} (h : Trie H X tk lv base w (n + 1) l b ps F) : ∃ ow pv kv ks, NdV base w b ow false (dataAt H l ps) (nodesAt H l ps) pv kv (pairsAt H l ps) ks ∧ All2 (fun k qs => ∃ F, Trie H X tk lv base w n (l + 1) k qs F) ks (kidsAt H l ps) := by
  obtain ⟨ow, pv, kv, lo, S, Fs, ⟨d, nn, hN, hd, hk⟩, hv, hNF, hS⟩ := h
  have hs : ∀ c, c < 32 → S.P c = onep (sub H l c ps) ∧ ((S.K c = none ∧ many (sub H l c ps) = none) ∨ ∃ k qs, S.K c = some k ∧ many (sub H l c ps) = some qs ∧ ∃ F, Trie H X tk lv base w n (l + 1) k qs F) := fun c hc => by
    have h := hS c hc
    unfold SlotIs at h
    cases e : S c with
    | no =>
      rw [e] at h
      rw [h.1]
      exact ⟨by show (S c).p? = _; rw [e]; rfl, .inl ⟨by show (S c).k? = _; rw [e]; rfl, rfl⟩⟩
    | pr p =>
      rw [e] at h
      rw [h.1]
      exact ⟨by show (S c).p? = _; rw [e]; rfl, .inl ⟨by show (S c).k? = _; rw [e]; rfl, rfl⟩⟩
    | kd k =>
      rw [e] at h
      refine ⟨?_, .inr ⟨k, _, by show (S c).k? = _; rw [e]; rfl, many_some.2 ⟨rfl, h.1⟩, _, h.2⟩⟩
      show (S c).p? = _
      rw [e]
      match hq : sub H l c ps, h.1 with
      | _ :: _ :: _, _ => rfl
  have e1 : fm S.P 32 = pairsAt H l ps := fm_congr _ _ 32 fun c hc => (hs c hc).1
  have e2 : d = dataAt H l ps := (bits_mask hd).trans (maskTo_congr 32 fun c hc => by rw [(hs c hc).1])
  have e3 : nn = nodesAt H l ps := (bits_mask hk).trans (maskTo_congr 32 fun c hc => by
    rcases (hs c hc).2 with ⟨a, b⟩ | ⟨k, qs, a, b, _⟩ <;> rw [a, b] <;> rfl)
  rw [e1, e2, e3] at hN
  exact ⟨_, pv, kv, _, hN, fm_all2 32 fun c hc => (hs c hc).2⟩
theorem Trie.view0 {l b : Nat} {ps : List Pr} (h : Trie H X tk lv base w 0 l b ps F) : ∃ ow pv kv, NdV base w b ow true 0 0 pv kv ps [] := by
  obtain ⟨ow, pv, kv, lo, hB, hv, hN⟩ := h
  exact ⟨_, pv, kv, hB.1⟩
end
end Go.Proofs.YtchimfgbdfmegaaGreat
/- Trees of nodes, whatever they are: what they look like, and where they lie. -/
namespace Go.Proofs.YtchimfgbdfmegaaGreat
open Go.RowKit Go.Lib
set_option linter.unusedVariables false
set_option maxRecDepth 100000
set_option linter.unusedSimpArgs false
set_option maxRecDepth 100000
attribute [local irreducible] cnt
/-- nodes, down to the last: none, a bucket, an inner node -/
inductive RT where
  | no
  | bucket (L : List Pr)
  | inner (P : Nat → Option Pr) (K : Nat → RT)
def RT.opt : RT → Option RT
  | .no => none
  | t => some t
def kidsR (K : Nat → RT) : List RT := fm (fun c => (K c).opt) 32
def dataR (P : Nat → Option Pr) : Nat := maskTo (fun c => (P c).isSome) 32
def nodesR (K : Nat → RT) : Nat := maskTo (fun c => (K c).opt.isSome) 32
/-- the bytes, at most d nodes deep -/
def encR : Nat → RT → List Nat
  | 0, _ => []
  | _ + 1, .no => []
  | _ + 1, .bucket L => 1 :: (twoB L.length ++ pairsB L)
  | d + 1, .inner P K => 0 :: (fourB (dataR P) ++ (fourB (nodesR K) ++ (pairsB (fm P 32) ++ (kidsR K).flatMap (encR d))))
/-- where they lie -/
def NdR (base : Nat) (w : World) : RT → Nat → Prop
  | .no, _ => False
  | .bucket L, b => ∃ ow pv kv, NdV base w b ow true 0 0 pv kv L []
  | .inner P K, b => ∃ ow pv kv, ∃ kb : Nat → Option Nat, NdV base w b ow false (dataR P) (nodesR K) pv kv (fm P 32) (fm kb 32) ∧ ∀ c, c < 32 → ((K c).opt = none ∧ kb c = none) ∨ ∃ k, (K c).opt.isSome = true ∧ kb c = some k ∧ NdR base w (K c) k
section
variable {base : Nat} {w w' : World} {b : Nat}
theorem NdR.view {P : Nat → Option Pr} {K : Nat → RT} (h : NdR base w (.inner P K) b) : ∃ ow pv kv ks, NdV base w b ow false (dataR P) (nodesR K) pv kv (fm P 32) ks ∧ All2 (fun k t => NdR base w t k) ks (kidsR K) := by
  obtain ⟨ow, pv, kv, kb, hN, hk⟩ := h
  refine ⟨ow, pv, kv, _, hN, fm_all2 32 fun c hc => ?_⟩
  rcases hk c hc with ⟨h1, h2⟩ | ⟨k, h1, h2, h3⟩
  · exact .inl ⟨h2, h1⟩
  · refine .inr ⟨k, K c, h2, ?_, h3⟩
    cases e : K c with
    | no => rw [e] at h1; simp [RT.opt] at h1
    | bucket L => rfl
    | inner P' K' => rfl
theorem NdV.keepTy {o : Value} {bk : Bool} {d nn : Nat} {pv kv : Value} {xs : List Pr} {ks : List Nat} {F : Nat → Prop} (h : NdV base w b o bk d nn pv kv xs ks) (hk : KeepF F w w') (hF : ∀ x, F x → ∀ t cs, Blk w x t cs → t ≠ 100 ∧ t ≠ 52 ∧ t ≠ 29) : NdV base w' b o bk d nn pv kv xs ks := by
  obtain ⟨X, hX, hXF⟩ := hk.keep
  refine h.keep hX fun x hx hm => ?_
  have hf := hF x (hXF x hm)
  simp only [foot, List.mem_cons, List.mem_append, Option.mem_toList] at hx
  rcases hx with rfl | e | e
  · exact (hf _ _ h.blk).1 rfl
  · obtain ⟨cur, hc⟩ := own_cells h.prs x e; exact (hf _ _ hc).2.1 rfl
  · obtain ⟨cur, hc⟩ := own_cells h.kds x e; exact (hf _ _ hc).2.2 rfl
/-- blocks of another kind are written -/
theorem NdR.keepF {F : Nat → Prop} (hk : KeepF F w w') (hF : ∀ x, F x → ∀ t cs, Blk w x t cs → t ≠ 100 ∧ t ≠ 52 ∧ t ≠ 29) : ∀ (t : RT) (b : Nat), NdR base w t b → NdR base w' t b
  | .no, b, h => h
  | .bucket L, b, h => by
    obtain ⟨ow, pv, kv, h⟩ := h
    exact ⟨ow, pv, kv, h.keepTy hk hF⟩
  | .inner P K, b, h => by
    obtain ⟨ow, pv, kv, kb, h, hc⟩ := h
    refine ⟨ow, pv, kv, kb, h.keepTy hk hF, fun c hlt => ?_⟩
    rcases hc c hlt with h1 | ⟨k, h1, h2, h3⟩
    · exact .inl h1
    · exact .inr ⟨k, h1, h2, NdR.keepF hk hF (K c) k h3⟩
theorem NdR.below (t : RT) (h : NdR base w t b) (hb : Below w.heap.size w w') : NdR base w' t b := NdR.keepF (F := fun _ => False) (KeepF.ofBelow hb) (fun _ h => h.elim) t b h
end
/-- the tree of a trie -/
def treeOf (H : ByteArray → Nat) : Nat → Nat → List Pr → RT
  | 0, _, ps => .bucket ps
  | n + 1, l, ps => .inner (fun c => onep (sub H l c ps)) (fun c => match many (sub H l c ps) with | none => .no | some qs => treeOf H n (l + 1) qs)
theorem tree_opt (H : ByteArray → Nat) (n l : Nat) (ps : List Pr) : (treeOf H n l ps).opt = some (treeOf H n l ps) := by cases n <;> rfl
theorem fm_map {α β : Type} (f : Nat → Option α) (g : α → β) : ∀ n, fm (fun c => (f c).map g) n = (fm f n).map g
  | 0 => rfl
  | n + 1 => by
    rw [fm_succ, fm_succ, fm_map f g n, List.map_append]
    cases f n <;> rfl
theorem kids_opt (H : ByteArray → Nat) (n l : Nat) (ps : List Pr) (c : Nat) : (match many (sub H l c ps) with | none => RT.no | some qs => treeOf H n (l + 1) qs).opt = (many (sub H l c ps)).map (treeOf H n (l + 1)) := by
  cases many (sub H l c ps) with
  | none => rfl
  | some qs => exact tree_opt H n (l + 1) qs
theorem kids_tree (H : ByteArray → Nat) (n l : Nat) (ps : List Pr) : kidsR (fun c => match many (sub H l c ps) with | none => RT.no | some qs => treeOf H n (l + 1) qs) = (kidsAt H l ps).map (treeOf H n (l + 1)) := by
  unfold kidsR kidsAt
  rw [← fm_map]
  exact fm_congr _ _ 32 fun c _ => kids_opt H n l ps c
theorem nodes_tree (H : ByteArray → Nat) (n l : Nat) (ps : List Pr) : nodesR (fun c => match many (sub H l c ps) with | none => RT.no | some qs => treeOf H n (l + 1) qs) = nodesAt H l ps := by
  unfold nodesR nodesAt
  refine maskTo_congr 32 fun c _ => ?_
  rw [kids_opt]; simp
theorem flatMap_congr {α β : Type} {f g : α → List β} : ∀ {xs : List α}, (∀ x ∈ xs, f x = g x) → xs.flatMap f = xs.flatMap g
  | [], _ => rfl
  | x :: xs, h => by rw [List.flatMap_cons, List.flatMap_cons, h x (by simp), flatMap_congr fun y hy => h y (by simp [hy])]
theorem encR_tree (H : ByteArray → Nat) : ∀ (n l : Nat) (ps : List Pr) (d : Nat), n < d → encR d (treeOf H n l ps) = encB H n l ps
  | 0, l, ps, d + 1, _ => rfl
  | n + 1, l, ps, d + 1, h => by
    show 0 :: (fourB (dataR _) ++ (fourB (nodesR _) ++ (pairsB (fm _ 32) ++ (kidsR _).flatMap (encR d)))) = encB H (n + 1) l ps
    rw [kids_tree, nodes_tree, encB_succ, List.flatMap_map]
    have e : (kidsAt H l ps).flatMap (fun a => encR d (treeOf H n (l + 1) a)) = (kidsAt H l ps).flatMap (encB H n (l + 1)) := flatMap_congr fun x _ => encR_tree H n (l + 1) x d (by omega)
    rw [e]
    rfl
theorem Trie.tree {H : ByteArray → Nat} {X : Nat → Prop} {tk : Option Nat} {lv : Bool} {base : Nat} {w : World} : ∀ (n l b : Nat) (ps : List Pr) (F : Nat → Prop), Trie H X tk lv base w n l b ps F → NdR base w (treeOf H n l ps) b
  | 0, l, b, ps, F, h => by
    obtain ⟨ow, pv, kv, lo, hB, hv, hN⟩ := h
    exact ⟨_, pv, kv, hB.1⟩
  | n + 1, l, b, ps, F, h => by
    obtain ⟨ow, pv, kv, lo, S, Fs, ⟨d, nn, hN, hd, hk⟩, hv, hNF, hS⟩ := h
    have hs : ∀ c, c < 32 → S.P c = onep (sub H l c ps) ∧ ((many (sub H l c ps) = none ∧ S.K c = none) ∨ ∃ k, many (sub H l c ps) = some (sub H l c ps) ∧ S.K c = some k ∧ NdR base w (treeOf H n (l + 1) (sub H l c ps)) k) := fun c hc => by
      have h := hS c hc
      unfold SlotIs at h
      cases e : S c with
      | no =>
        rw [e] at h
        rw [h.1]
        exact ⟨by show (S c).p? = _; rw [e]; rfl, .inl ⟨rfl, by show (S c).k? = _; rw [e]; rfl⟩⟩
      | pr p =>
        rw [e] at h
        rw [h.1]
        exact ⟨by show (S c).p? = _; rw [e]; rfl, .inl ⟨rfl, by show (S c).k? = _; rw [e]; rfl⟩⟩
      | kd k =>
        rw [e] at h
        refine ⟨?_, .inr ⟨k, many_some.2 ⟨rfl, h.1⟩, by show (S c).k? = _; rw [e]; rfl, Trie.tree n (l + 1) k _ _ h.2⟩⟩
        show (S c).p? = _
        rw [e]
        match hq : sub H l c ps, h.1 with
        | _ :: _ :: _, _ => rfl
    have e1 : fm S.P 32 = fm (fun c => onep (sub H l c ps)) 32 := fm_congr _ _ 32 fun c hc => (hs c hc).1
    have e2 : d = dataR fun c => onep (sub H l c ps) := (bits_mask hd).trans (maskTo_congr 32 fun c hc => by rw [(hs c hc).1])
    have e3 : nn = nodesR fun c => match many (sub H l c ps) with | none => RT.no | some qs => treeOf H n (l + 1) qs := by
      rw [nodes_tree]
      refine (bits_mask hk).trans (maskTo_congr 32 fun c hc => ?_)
      rcases (hs c hc).2 with ⟨a, b⟩ | ⟨k, a, b, _⟩ <;> rw [a, b] <;> rfl
    rw [e1, e2, e3] at hN
    refine ⟨_, pv, kv, S.K, hN, fun c hc => ?_⟩
    rcases (hs c hc).2 with ⟨a, b⟩ | ⟨k, a, b, hn⟩
    · exact .inl ⟨by rw [kids_opt, a]; rfl, b⟩
    · refine .inr ⟨k, by rw [kids_opt, a]; rfl, b, ?_⟩
      simp only [a]
      exact hn
end Go.Proofs.YtchimfgbdfmegaaGreat
/- Bytes that are appended: numbers, texts. -/
namespace Go.Proofs.YtchimfgbdfmegaaGreat
open Go.RowKit Go.Lib
set_option linter.unusedVariables false
set_option linter.unusedSimpArgs false
set_option maxRecDepth 100000
attribute [local irreducible] cnt
def ubs (L : List Nat) : List Value := L.map fun n : Nat => Value.int .u8 n
/-- a row of bytes of one's own -/
def OwnB (base : Nat) (w : World) (v : Value) (L : List Nat) : Prop := w.ownsRow base 5 1 v L.length (ubs L)
theorem ubs_len (L : List Nat) : (ubs L).length = L.length := by simp [ubs]
theorem ubs_app (L M : List Nat) : ubs (L ++ M) = ubs L ++ ubs M := by simp [ubs]
theorem OwnB.nil (base : Nat) (w : World) : OwnB base w (.slice none 0 0) [] := ⟨rfl, .inl ⟨rfl, rfl⟩⟩
/-- only rows of bytes are written -/
def K5 (w w' : World) : Prop := KeepF (fun x => ∃ cs, Blk w x 5 cs) w w'
theorem K5.refl (w : World) : K5 w w := KeepF.refl _ _
theorem K5.below {w w' : World} (h : Below w.heap.size w w') : K5 w w' := KeepF.ofBelow h
theorem K5.trans {a b c : World} (h : K5 a b) (k : K5 b c) : K5 a c :=
  ⟨h.all.trans k.all, fun x hx hF => by
    have e1 := h.block x hx hF
    refine (k.block x (Nat.lt_of_lt_of_le hx h.size) fun ⟨cs, hB⟩ => hF ⟨cs, ?_⟩).trans e1
    unfold Blk at hB ⊢
    rw [← e1]; exact hB⟩
theorem own_grow (w w' : World) {r : Option Nat} (hg : w.grownBy w' r) : Keep r.toList w w' := ⟨⟨hg.os, hg.tape, hg.output, hg.size, fun i hi => by omega⟩, fun i hi hx => hg.block i hi fun e => hx (by rw [← e]; simp)⟩
theorem K5.grown {w w' : World} {base n : Nat} {v : Value} {xs : List Value} (h : w.ownsRow base 5 1 v n xs) (hg : w.grownBy w' v.ownBlock) : K5 w w' :=
  (KeepF.ofKeep (own_grow w w' hg)).mono fun x hx => .inl (by
    obtain ⟨cs, hc⟩ := own_cells h x (by simpa using hx)
    exact ⟨cs, hc⟩)
theorem K5.tree {w w' : World} {base : Nat} (h : K5 w w') {t : RT} {b : Nat} (hn : NdR base w t b) : NdR base w' t b :=
  NdR.keepF h (fun x ⟨cs, hx⟩ t' cs' hb => by
    unfold Blk at hx hb
    rw [hx] at hb
    simp at hb
    obtain ⟨-, rfl⟩ := hb
    decide) t b hn
theorem K5.node {w w' : World} {base b : Nat} {o : Value} {bk : Bool} {d nn : Nat} {pv kv : Value} {xs : List Pr} {ks : List Nat} (h : K5 w w') (hn : NdV base w b o bk d nn pv kv xs ks) : NdV base w' b o bk d nn pv kv xs ks :=
  hn.keepTy h (fun x ⟨cs, hx⟩ t' cs' hb => by
    unfold Blk at hx hb
    rw [hx] at hb
    simp at hb
    obtain ⟨-, rfl⟩ := hb
    decide)
theorem below_drewK (w : World) (k : Nat) : Below w.heap.size w (w.drewN k) := ⟨rfl, rfl, rfl, Nat.le_refl _, fun _ _ => rfl⟩
theorem K5.own {w w' : World} {base e sz n : Nat} {v : Value} {xs : List Value} (h : K5 w w') (ho : w.ownsRow base e sz v n xs) (he : e ≠ 5) : w'.ownsRow base e sz v n xs := by
  obtain ⟨X, hX, hXF⟩ := h.keep
  refine own_keep ho hX fun x hx e' => ?_
  obtain ⟨cs, hb⟩ := hXF x hx
  obtain ⟨cur, hc⟩ := own_cells ho x e'
  unfold Blk at hb
  rw [hc] at hb
  simp at hb
  exact he hb.2
theorem K5.blk {w w' : World} {g : Nat} {t : TypeId} {cs : Array Value} (h : K5 w w') (hB : Blk w g t cs) (ht : t ≠ 5) : Blk w' g t cs := by
  refine (h.block g hB.lt fun ⟨cs', hB'⟩ => ?_).trans hB
  unfold Blk at hB hB'
  rw [hB] at hB'
  simp at hB'
  exact ht hB'.2
theorem OwnB.below {base : Nat} {w w' : World} {v : Value} {L : List Nat} (h : OwnB base w v L) (hb : Below w.heap.size w w') : OwnB base w' v L := own_keep h (Keep.of_below (X := []) hb) (by simp)
/-- what an appending call leaves -/
def AppP (base : Nat) (L : List Nat) (w : World) (e : Ending) (w' : World) : Prop := ∃ v, e = .returned v ∧ OwnB base w' v L ∧ Below base w w' ∧ K5 w w'
theorem info5 : (Tryz.prog.info? 5).map (fun i => (i.zero, i.size, i.bytes)) = some (some (.int .u8 0), 1, 1) := by kernel_rfl
theorem zsz_u8 : (Value.cells (.int .u8 0)).size = 1 := by simp [Value.cells]
def numB (x s : Nat) : List Nat := (List.range s).map fun i => x / 2 ^ (8 * i) % 256
theorem numB_succ (x s : Nat) : numB x (s + 1) = numB x s ++ [x / 2 ^ (8 * s) % 256] := by simp [numB, List.range_succ]
theorem numB_len (x s : Nat) : (numB x s).length = s := by simp [numB]
theorem numB_two (x : Nat) : numB x 2 = twoB x := by simp [numB, twoB, List.range_succ]
theorem numB_four (x : Nat) : numB x 4 = fourB x := by simp [numB, fourB, List.range_succ]
set_option maxHeartbeats 4000000 in
theorem withNumber_any (base : Nat) (v : Value) (L : List Nat) (x s : Nat) (w : World) (ho : OwnB base w v L) (hb : base ≤ w.heap.size) (hL : L.length ≤ 1000000000000) (hs : s ≤ 4) (hx : x < 4294967296) :
    Calls Tryz.prog 89 #[v, .int .i64 x, .int .i64 s] w (AppP base (L ++ numB x s) w) := by
  obtain ⟨i5, hi5, hy50, hy51, hy52⟩ := info_parts info5
  go_enter Tryz.func89, Tryz.ntmps89
  go_wp2_with fail
  go_loopw [0, 9] (fun v0 vi wr => ∃ j : Nat, j ≤ s ∧ vi = .int .i64 j ∧ OwnB base wr v0 (L ++ numB x j) ∧ Below base w wr ∧ K5 w wr) (fun v0 vi wr => s - (intOf vi).toNat)
  case atStart => exact ⟨0, by omega, rfl, by simpa [numB] using ho, Below.refl _ _, K5.refl _⟩
  case round =>
    clear ho
    obtain ⟨j, hj, rfl, ho, hB, hK⟩ := hrel
    by_cases hlt : j < s
    · have L1 : (j : Int) < (s : Int) := by omega
      have L2 : IntKind.i64.wrap ((j : Int) + 1) = ((j + 1 : Nat) : Int) := by rw [IntWalk.i64_in _ (by omega)]; omega
      have L3 : IntKind.i64.wrap (8 * (j : Int)) = ((8 * j : Nat) : Int) := by rw [IntWalk.i64_in _ (by omega)]; omega
      have LV : ((x : Int) / 2 ^ (8 * j) % 256) = ((x / 2 ^ (8 * j) % 256 : Nat) : Int) := by push_cast; rfl
      have hlen : (L ++ numB x j).length = L.length + j := by rw [List.length_append, numB_len]
      have hBl := (Below.refl _ wr).alloc (Nat.le_refl _) (.cells #[.int .u8 ((x : Int) / 2 ^ (8 * j) % 256)] 5)
      have hrow : (wr.alloc (.cells #[.int .u8 ((x : Int) / 2 ^ (8 * j) % 256)] 5)).ownsRow base 5 1 u0 (L.length + j) (ubs (L ++ numB x j)) := by rw [← hlen]; exact own_keep ho (Keep.of_below (X := []) hBl) (by simp)
      have hnb : (wr.alloc (.cells #[.int .u8 ((x : Int) / 2 ^ (8 * j) % 256)] 5)).heap[wr.heap.size]? = some (.cells #[.int .u8 ((x : Int) / 2 ^ (8 * j) % 256)] 5 (0, 0)) := heap_alloc_new wr _
      have hsz := Nat.le_trans hb (Nat.le_trans hB.size hBl.size)
      have HB := Lib.hid (hB.trans (hBl.mono (Nat.le_trans hb hB.size)))
      have HK := Lib.hid (hK.trans (K5.below hBl))
      have LVh := Lib.hid LV
      have Hlen := Lib.hid hlen
      clear hB ho hBl LV hlen hK
      go_wp2_with (at_builtin; refine wpList_append_own_at _ rfl _ _ 34 rfl base 5 i5 _ 1 1 Tryz.underlying34 hi5 hy50 hy51 hy52 zsz_u8 (by decide) _ _ _ rfl hrow ⟨wr.heap.size, 0, none⟩ 1 1 [.int .u8 ((x : Int) / 2 ^ (8 * j) % 256)] rfl rfl (World.news_of_block hnb) (by simp [Value.oneCell']) (by unfold maxLen; omega) (by omega) hsz ?_; intro v' wa hown' hgrow hnil hat)
      replace hgrow : (wr.alloc (.cells #[.int .u8 ((x : Int) / 2 ^ (8 * j) % 256)] 5)).grownBy wa u0.ownBlock := hgrow
      refine ⟨⟨j + 1, by omega, by go_num, ?_, HB.out.grown hgrow (Nat.le_trans hb (HB.out.size)) (own_ge hrow), HK.out.trans (K5.grown hrow hgrow)⟩, by simp [intOf]; omega⟩
      have e1 : L ++ numB x (j + 1) = (L ++ numB x j) ++ [x / 2 ^ (8 * j) % 256] := by rw [numB_succ, List.append_assoc]
      unfold OwnB
      rw [e1, ubs_app, List.length_append, Hlen.out]
      have e2 : ubs [x / 2 ^ (8 * j) % 256] = [.int .u8 ((x : Int) / 2 ^ (8 * j) % 256)] := by rw [LVh.out]; rfl
      rw [e2]
      exact hown'
    · obtain rfl : j = s := by omega
      have G : ¬ ((j : Int) < (j : Int)) := by omega
      go_wp2_with fail
      go_ret
      exact ⟨_, rfl, ho, hB, hK⟩
theorem textB_len (s : ByteArray) : (textB s).length = s.size + 2 := by simp [textB, strB_len, twoB]
theorem str_cells (s : ByteArray) : strCells s = ubs (strB s) := by simp [strCells, ubs, strB]
set_option maxHeartbeats 4000000 in
theorem withText_any (base : Nat) (v : Value) (L : List Nat) (s : ByteArray) (w : World) (ho : OwnB base w v L) (hb : base ≤ w.heap.size) (hL : L.length ≤ 100000000000) (hs : s.size ≤ 1000000) :
    Calls Tryz.prog 58 #[v, .string s] w (AppP base (L ++ textB s) w) := by
  obtain ⟨i5, hi5, hy50, hy51, hy52⟩ := info_parts info5
  have kn := withNumber_any base v L s.size 2 w ho hb (by omega) (by omega) (by omega)
  have L1 : IntKind.i64.wrap (s.size : Int) = (s.size : Int) := by rw [IntWalk.i64_in _ (by omega)]
  clear ho
  go_enter Tryz.func58, Tryz.ntmps58
  go_wp2_with fail
  refine kn.mono ?_
  rintro e w1 ⟨v1, rfl, ho, hB, hK⟩
  have hlen : (L ++ numB s.size 2).length = L.length + 2 := by rw [List.length_append, numB_len]
  have hrow : w1.ownsRow base 5 1 v1 (L.length + 2) (ubs (L ++ numB s.size 2)) := by rw [← hlen]; exact ho
  have hsz := Nat.le_trans hb hB.size
  have HB := Lib.hid hB
  have HK := Lib.hid hK
  have Hlen := Lib.hid hlen
  clear kn ho hB hK hlen
  go_wp2_with (at_builtin; refine wpList_append_own_string _ rfl _ _ 34 9 rfl base 5 i5 Tryz.underlying34 Tryz.underlying9 hi5 hy50 hy51 hy52 _ _ _ rfl hrow s rfl (by unfold maxLen; omega) (by omega) hsz ?_; intro v' wa hown' hgrow hnil)
  replace hgrow : w1.grownBy wa v1.ownBlock := hgrow
  go_ret
  refine ⟨_, rfl, ?_, HB.out.grown hgrow hsz (own_ge hrow), HK.out.trans (K5.grown hrow hgrow)⟩
  have e1 : L ++ textB s = (L ++ numB s.size 2) ++ strB s := by unfold textB; rw [numB_two, List.append_assoc]
  unfold OwnB
  rw [e1, ubs_app, List.length_append, Hlen.out, strB_len, ← str_cells]
  exact hown'
end Go.Proofs.YtchimfgbdfmegaaGreat
/- What a node looks like: its head, and all below it. -/
namespace Go.Proofs.YtchimfgbdfmegaaGreat
open Go.RowKit Go.Lib
set_option linter.unusedVariables false
set_option linter.unusedSimpArgs false
set_option maxRecDepth 100000
attribute [local irreducible] cnt
def headB (bk : Bool) (m d nn : Nat) : List Nat := if bk then 1 :: twoB m else 0 :: (fourB d ++ fourB nn)
theorem numB_one (x : Nat) : [x] = [x] := rfl
set_option maxHeartbeats 8000000 in
theorem withHead_any (base nb b : Nat) (o : Value) (bk : Bool) (d nn : Nat) (pv kv : Value) (xs : List Pr) (ks : List Nat) (v : Value) (L : List Nat) (w : World) (h : NdV nb w b o bk d nn pv kv xs ks) (hx : xs.length ≤ 800) (hk : bk = true → ks = []) (hd : d < 4294967296) (hnn : nn < 4294967296) (hks : ks.length ≤ 800)
    (ho : OwnB base w v L) (hb : base ≤ w.heap.size) (hL : L.length ≤ 10000000000) :
    Calls Tryz.prog 56 #[v, .pointer (some ⟨b, 0, none⟩)] w (AppP base (L ++ headB bk xs.length d nn) w) := by
  obtain ⟨i5, hi5, hy50, hy51, hy52⟩ := info_parts info5
  have kb := isBucket_any _ _ _ _ _ _ _ _ _ _ w h
  unfold at0 at kb
  cases bk with
  | true =>
    obtain rfl := hk rfl
    have HN := Lib.hid h
    have hBl := (Below.refl _ w).alloc (Nat.le_refl _) (.cells #[.int .u8 1] 5)
    have hrow : (w.alloc (.cells #[.int .u8 1] 5)).ownsRow base 5 1 v L.length (ubs L) := own_keep ho (Keep.of_below (X := []) hBl) (by simp)
    have hnb : (w.alloc (.cells #[.int .u8 1] 5)).heap[w.heap.size]? = some (.cells #[.int .u8 1] 5 (0, 0)) := heap_alloc_new w _
    have hsz := Nat.le_trans hb hBl.size
    have HB := Lib.hid (hBl.mono hb)
    have HK := Lib.hid (K5.below hBl)
    clear h ho hBl hk
    go_enter Tryz.func56, Tryz.ntmps56
    go_wp2_with fail
    refine kb.mono ?_
    rintro e w' ⟨rfl, rfl⟩
    go_wp2_with (at_builtin; refine wpList_append_own_at _ rfl _ _ 34 rfl base 5 i5 _ 1 1 Tryz.underlying34 hi5 hy50 hy51 hy52 zsz_u8 (by decide) _ _ _ rfl hrow ⟨w.heap.size, 0, none⟩ 1 1 [.int .u8 1] rfl rfl (World.news_of_block hnb) (by simp [Value.oneCell']) (by unfold maxLen; omega) (by omega) hsz ?_; intro v' wa hown' hgrow hnil hat)
    replace hgrow : (w.alloc (.cells #[.int .u8 1] 5)).grownBy wa v.ownBlock := hgrow
    have hBa := HB.out.grown hgrow hsz (own_ge hrow)
    have hKa := HK.out.trans (K5.grown hrow hgrow)
    have hNa := hKa.node HN.out
    have hoa : OwnB base wa v' (L ++ [1]) := by
      unfold OwnB
      rw [List.length_append, ubs_app]
      exact hown'
    have kl := len_any _ _ _ _ _ _ _ _ _ _ wa hNa (by omega) (by simp)
    unfold at0 at kl
    have e0 : ((xs.length + ([] : List Nat).length : Nat) : Int) = ((xs.length : Nat) : Int) := by simp
    rw [e0] at kl
    clear hown' hgrow hnil hat hrow hnb kb HB HK HN hNa e0
    refine kl.mono ?_
    rintro e w2 ⟨rfl, k, rfl⟩
    have hB2 : Below wa.heap.size wa (wa.drewN k) := below_drewK wa k
    have kn := withNumber_any base v' (L ++ [1]) xs.length 2 _ (hoa.below hB2) (Nat.le_trans hb (Nat.le_trans hBa.size hB2.size)) (by simp; omega) (by omega) (by omega)
    have hBb := hBa.trans (hB2.mono (Nat.le_trans hb hBa.size))
    have hKb := hKa.trans (K5.below hB2)
    clear kl hoa hB2 hBa hKa
    go_wp2_with fail
    refine kn.mono ?_
    rintro e w3 ⟨v3, rfl, ho3, hB3, hK3⟩
    clear kn
    go_wp2_with fail
    go_ret
    refine ⟨_, rfl, ?_, hBb.trans hB3, hKb.trans hK3⟩
    have e1 : L ++ headB true xs.length d nn = (L ++ [1]) ++ numB xs.length 2 := by rw [numB_two, List.append_assoc]; rfl
    rw [e1]
    exact ho3
  | false =>
    have HN := Lib.hid h
    have hBl := (Below.refl _ w).alloc (Nat.le_refl _) (.cells #[.int .u8 0] 5)
    have hrow : (w.alloc (.cells #[.int .u8 0] 5)).ownsRow base 5 1 v L.length (ubs L) := own_keep ho (Keep.of_below (X := []) hBl) (by simp)
    have hnb : (w.alloc (.cells #[.int .u8 0] 5)).heap[w.heap.size]? = some (.cells #[.int .u8 0] 5 (0, 0)) := heap_alloc_new w _
    have hsz := Nat.le_trans hb hBl.size
    have HB := Lib.hid (hBl.mono hb)
    have HK := Lib.hid (K5.below hBl)
    have c1 : IntKind.i64.wrap (d : Int) = (d : Int) := by rw [IntWalk.i64_in _ (by omega)]
    have c2 : IntKind.i64.wrap (nn : Int) = (nn : Int) := by rw [IntWalk.i64_in _ (by omega)]
    clear h ho hBl hk
    go_enter Tryz.func56, Tryz.ntmps56
    go_wp2_with fail
    refine kb.mono ?_
    rintro e w' ⟨rfl, rfl⟩
    go_wp2_with (at_builtin; refine wpList_append_own_at _ rfl _ _ 34 rfl base 5 i5 _ 1 1 Tryz.underlying34 hi5 hy50 hy51 hy52 zsz_u8 (by decide) _ _ _ rfl hrow ⟨w.heap.size, 0, none⟩ 1 1 [.int .u8 0] rfl rfl (World.news_of_block hnb) (by simp [Value.oneCell']) (by unfold maxLen; omega) (by omega) hsz ?_; intro v' wa hown' hgrow hnil hat)
    replace hgrow : (w.alloc (.cells #[.int .u8 0] 5)).grownBy wa v.ownBlock := hgrow
    have hBa := HB.out.grown hgrow hsz (own_ge hrow)
    have hKa := HK.out.trans (K5.grown hrow hgrow)
    have hNa := hKa.node HN.out
    have hoa : OwnB base wa v' (L ++ [0]) := by
      unfold OwnB
      rw [List.length_append, ubs_app]
      exact hown'
    have kl := data_any _ _ _ _ _ _ _ _ _ _ wa hNa
    unfold at0 at kl
    have kn := withNumber_any base v' (L ++ [0]) d 4 wa hoa (Nat.le_trans hb hBa.size) (by simp; omega) (by omega) hd
    clear hown' hgrow hnil hat hrow hnb kb HB HK HN hoa
    refine kl.mono ?_
    rintro e w2 ⟨rfl, rfl⟩
    clear kl
    go_wp2_with fail
    refine kn.mono ?_
    rintro e w3 ⟨v3, rfl, ho3, hB3, hK3⟩
    have hN3 := hK3.node hNa
    have k2 := nodes_any _ _ _ _ _ _ _ _ _ _ w3 hN3
    unfold at0 at k2
    have hBb := hBa.trans hB3
    have hKb := hKa.trans hK3
    have kn2 := withNumber_any base v3 (L ++ [0] ++ numB d 4) nn 4 w3 ho3 (Nat.le_trans hb hBb.size) (by simp [numB_len]; omega) (by omega) hnn
    clear kn hB3 hK3 hBa hKa hNa ho3 hN3
    go_wp2_with fail
    refine k2.mono ?_
    rintro e w4 ⟨rfl, rfl⟩
    clear k2
    go_wp2_with fail
    refine kn2.mono ?_
    rintro e w5 ⟨v5, rfl, ho5, hB5, hK5⟩
    clear kn2
    go_wp2_with fail
    go_ret
    refine ⟨_, rfl, ?_, hBb.trans hB5, hKb.trans hK5⟩
    have e1 : L ++ headB false xs.length d nn = (L ++ [0] ++ numB d 4) ++ numB nn 4 := by rw [numB_four, numB_four, List.append_assoc, List.append_assoc]; rfl
    rw [e1]
    exact ho5
end Go.Proofs.YtchimfgbdfmegaaGreat
/- The empty trie; the law's own small functions. -/
namespace Go.Proofs.YtchimfgbdfmegaaGreat
open Go.RowKit Go.Lib
set_option linter.unusedVariables false
set_option maxRecDepth 100000
set_option linter.unusedSimpArgs false
set_option maxRecDepth 100000
attribute [local irreducible] cnt
theorem keepH {N0 : Nat} {k0 k1 m : Int} {w w' : World} (h : (fun w' : World => w'.cell? ⟨N0, 0, none⟩ = some (.int .u64 k0) ∧ w'.cell? ⟨N0, 1, none⟩ = some (.int .u64 k1) ∧ w'.cell? ⟨N0, 2, none⟩ = some (.int .u64 m)) w) (hB : Below w.heap.size w w') : (fun w' : World => w'.cell? ⟨N0, 0, none⟩ = some (.int .u64 k0) ∧ w'.cell? ⟨N0, 1, none⟩ = some (.int .u64 k1) ∧ w'.cell? ⟨N0, 2, none⟩ = some (.int .u64 m)) w' :=
  ⟨(hB.cell (World.block_lt_of_cell? w _ h.1)).trans h.1, (hB.cell (World.block_lt_of_cell? w _ h.2.1)).trans h.2.1, (hB.cell (World.block_lt_of_cell? w _ h.2.2)).trans h.2.2⟩
theorem keepSet {N0 B i : Nat} {v : Value} {k0 k1 m : Int} {w : World} (h : (fun w' : World => w'.cell? ⟨N0, 0, none⟩ = some (.int .u64 k0) ∧ w'.cell? ⟨N0, 1, none⟩ = some (.int .u64 k1) ∧ w'.cell? ⟨N0, 2, none⟩ = some (.int .u64 m)) w) (hne : N0 ≠ B) : (fun w' : World => w'.cell? ⟨N0, 0, none⟩ = some (.int .u64 k0) ∧ w'.cell? ⟨N0, 1, none⟩ = some (.int .u64 k1) ∧ w'.cell? ⟨N0, 2, none⟩ = some (.int .u64 m)) (w.setCell ⟨B, i, none⟩ v) := by
  have e : ∀ j, (w.setCell ⟨B, i, none⟩ v).cell? ⟨N0, j, none⟩ = w.cell? ⟨N0, j, none⟩ := fun j => by simp [World.cell?, Below.heap_setCell w ⟨B, i, none⟩ v N0 hne]
  simp only [e]
  exact h
theorem late_noR {b : Bool} {p : Prop} (h : b = true) : b = false → p := fun e => by rw [h] at e; cases e
theorem empty_any (H : ByteArray → Nat) (base : Nat) (w : World) (hb : base ≤ w.heap.size) :
    Calls Tryz.prog 27 #[] w (RetB fun b w' => Trie H (fun _ => False) none false base w' 13 0 b [] (fun _ => False) ∧ Below w.heap.size w w') := by
  go_enter Tryz.func27, Tryz.ntmps27
  go_wp2_with fail
  refine (Inn.new w).mono ?_
  rintro e w1 ⟨b, rfl, -, hI, hB⟩
  unfold at0
  go_wp2_with fail
  go_ret
  exact ⟨b, rfl, ⟨none, _, _, false, _, fun _ _ => False, hI.base hb, ⟨TV.nil _, fun t e => by simp at e⟩, ⟨fun e => by simp [ownB] at e, fun _ => ⟨fun _ _ h => h, fun _ h => h, fun _ _ _ h => h⟩⟩, fun c hc => ⟨rfl, fun _ h => h⟩⟩, hB⟩
/-- at most forty bytes -/
def cut40 (s : ByteArray) : ByteArray := if 40 < s.size then s.extract 0 40 else s
theorem cut40_size (s : ByteArray) : (cut40 s).size ≤ 40 := by
  unfold cut40
  split
  · rw [ByteArray.size_extract]; omega
  · omega
def few40 (p : Pr) : Pr := (cut40 p.1, cut40 p.2)
set_option maxHeartbeats 2000000 in
theorem few_any (p : Pr) (w : World) : Calls Tryz.prog 20 #[.agg #[.string p.1, .string p.2]] w fun e w' => e = .returned (.agg #[.string (few40 p).1, .string (few40 p).2]) ∧ Below w.heap.size w w' := by
  have hB0 := ((Below.refl _ w).alloc (Nat.le_refl _) (.cells #[.string p.1, .string p.2] 52)).alloc (by simp) (.cells #[.string ⟨#[]⟩, .string ⟨#[]⟩] 52)
  have b1 := (Blk.new w 52 #[.string p.1, .string p.2]).alloc (.cells #[.string ⟨#[]⟩, .string ⟨#[]⟩] 52)
  have b2 := Blk.new (w.alloc (.cells #[.string p.1, .string p.2] 52)) 52 #[.string ⟨#[]⟩, .string ⟨#[]⟩]
  have e1 : (w.alloc (.cells #[.string p.1, .string p.2] 52)).heap.size = w.heap.size + 1 := by simp
  rw [e1] at b2
  clear e1
  unfold few40 cut40
  by_cases h1 : 40 < p.1.size <;> by_cases h2 : 40 < p.2.size
  · rw [if_pos h1, if_pos h2]
    have g1 : (40 : Int) < (p.1.size : Int) := by omega
    have g2 : (40 : Int) < (p.2.size : Int) := by omega
    go_enter Tryz.func20, Tryz.ntmps20
    go_upto_region 1 with (fail)
    generalize (w.alloc (.cells #[.string p.1, .string p.2] 52)).alloc (.cells #[.string ⟨#[]⟩, .string ⟨#[]⟩] 52) = W at *
    obtain ⟨N2, hN2⟩ : ∃ N2, N2 = w.heap.size + 1 := ⟨_, rfl⟩
    rw [← hN2] at b2 ⊢
    obtain ⟨N1, hN1⟩ : ∃ N1, N1 = w.heap.size := ⟨_, rfl⟩
    rw [← hN1] at b1 ⊢
    have n1 : ¬ (N1 = N2) := by omega
    have n2 : ¬ (N2 = N1) := by omega
    have l1 : w.heap.size ≤ N1 := by omega
    have l2 : w.heap.size ≤ N2 := by omega
    clear hN1 hN2
    have c0 : W.cell? ⟨N1, 0, none⟩ = some (.string p.1) := b1.cell 0
    have c1 : W.cell? ⟨N1, 1, none⟩ = some (.string p.2) := b1.cell 1
    have f0 := b1.frozen 0
    have f1 := b1.frozen 1
    have e0 : W.cell? ⟨N2, 0, none⟩ = some (.string ⟨#[]⟩) := b2.cell 0
    have e1 : W.cell? ⟨N2, 1, none⟩ = some (.string ⟨#[]⟩) := b2.cell 1
    have j0 := b2.frozen 0
    have j1 := b2.frozen 1
    clear b1 b2
    go_wp2_with fail
    refine bodyPost_ret (v := .agg #[.string (p.1.extract 0 40), .string (p.2.extract 0 40)]) (by simp [results, Tryz.results20, go_sem, c0, c1, e0, e1, n1, n2]) rfl ⟨rfl, ?_⟩
    exact (((hB0.setCell (p := ⟨N1, 0, none⟩) l1 _).setCell (p := ⟨N1, 1, none⟩) l1 _).setCell (p := ⟨N2, 0, none⟩) l2 _).setCell (p := ⟨N2, 1, none⟩) l2 _
  · rw [if_pos h1, if_neg h2]
    have g1 : (40 : Int) < (p.1.size : Int) := by omega
    have g2 : ¬ (40 : Int) < (p.2.size : Int) := by omega
    go_enter Tryz.func20, Tryz.ntmps20
    go_upto_region 1 with (fail)
    generalize (w.alloc (.cells #[.string p.1, .string p.2] 52)).alloc (.cells #[.string ⟨#[]⟩, .string ⟨#[]⟩] 52) = W at *
    obtain ⟨N2, hN2⟩ : ∃ N2, N2 = w.heap.size + 1 := ⟨_, rfl⟩
    rw [← hN2] at b2 ⊢
    obtain ⟨N1, hN1⟩ : ∃ N1, N1 = w.heap.size := ⟨_, rfl⟩
    rw [← hN1] at b1 ⊢
    have n1 : ¬ (N1 = N2) := by omega
    have n2 : ¬ (N2 = N1) := by omega
    have l1 : w.heap.size ≤ N1 := by omega
    have l2 : w.heap.size ≤ N2 := by omega
    clear hN1 hN2
    have c0 : W.cell? ⟨N1, 0, none⟩ = some (.string p.1) := b1.cell 0
    have c1 : W.cell? ⟨N1, 1, none⟩ = some (.string p.2) := b1.cell 1
    have f0 := b1.frozen 0
    have f1 := b1.frozen 1
    have e0 : W.cell? ⟨N2, 0, none⟩ = some (.string ⟨#[]⟩) := b2.cell 0
    have e1 : W.cell? ⟨N2, 1, none⟩ = some (.string ⟨#[]⟩) := b2.cell 1
    have j0 := b2.frozen 0
    have j1 := b2.frozen 1
    clear b1 b2
    go_wp2_with fail
    refine bodyPost_ret (v := .agg #[.string (p.1.extract 0 40), .string (p.2)]) (by simp [results, Tryz.results20, go_sem, c0, c1, e0, e1, n1, n2]) rfl ⟨rfl, ?_⟩
    exact ((hB0.setCell (p := ⟨N1, 0, none⟩) l1 _).setCell (p := ⟨N2, 0, none⟩) l2 _).setCell (p := ⟨N2, 1, none⟩) l2 _
  · rw [if_neg h1, if_pos h2]
    have g1 : ¬ (40 : Int) < (p.1.size : Int) := by omega
    have g2 : (40 : Int) < (p.2.size : Int) := by omega
    go_enter Tryz.func20, Tryz.ntmps20
    go_upto_region 1 with (fail)
    generalize (w.alloc (.cells #[.string p.1, .string p.2] 52)).alloc (.cells #[.string ⟨#[]⟩, .string ⟨#[]⟩] 52) = W at *
    obtain ⟨N2, hN2⟩ : ∃ N2, N2 = w.heap.size + 1 := ⟨_, rfl⟩
    rw [← hN2] at b2 ⊢
    obtain ⟨N1, hN1⟩ : ∃ N1, N1 = w.heap.size := ⟨_, rfl⟩
    rw [← hN1] at b1 ⊢
    have n1 : ¬ (N1 = N2) := by omega
    have n2 : ¬ (N2 = N1) := by omega
    have l1 : w.heap.size ≤ N1 := by omega
    have l2 : w.heap.size ≤ N2 := by omega
    clear hN1 hN2
    have c0 : W.cell? ⟨N1, 0, none⟩ = some (.string p.1) := b1.cell 0
    have c1 : W.cell? ⟨N1, 1, none⟩ = some (.string p.2) := b1.cell 1
    have f0 := b1.frozen 0
    have f1 := b1.frozen 1
    have e0 : W.cell? ⟨N2, 0, none⟩ = some (.string ⟨#[]⟩) := b2.cell 0
    have e1 : W.cell? ⟨N2, 1, none⟩ = some (.string ⟨#[]⟩) := b2.cell 1
    have j0 := b2.frozen 0
    have j1 := b2.frozen 1
    clear b1 b2
    go_wp2_with fail
    refine bodyPost_ret (v := .agg #[.string (p.1), .string (p.2.extract 0 40)]) (by simp [results, Tryz.results20, go_sem, c0, c1, e0, e1, n1, n2]) rfl ⟨rfl, ?_⟩
    exact ((hB0.setCell (p := ⟨N1, 1, none⟩) l1 _).setCell (p := ⟨N2, 0, none⟩) l2 _).setCell (p := ⟨N2, 1, none⟩) l2 _
  · rw [if_neg h1, if_neg h2]
    have g1 : ¬ (40 : Int) < (p.1.size : Int) := by omega
    have g2 : ¬ (40 : Int) < (p.2.size : Int) := by omega
    go_enter Tryz.func20, Tryz.ntmps20
    go_upto_region 1 with (fail)
    generalize (w.alloc (.cells #[.string p.1, .string p.2] 52)).alloc (.cells #[.string ⟨#[]⟩, .string ⟨#[]⟩] 52) = W at *
    obtain ⟨N2, hN2⟩ : ∃ N2, N2 = w.heap.size + 1 := ⟨_, rfl⟩
    rw [← hN2] at b2 ⊢
    obtain ⟨N1, hN1⟩ : ∃ N1, N1 = w.heap.size := ⟨_, rfl⟩
    rw [← hN1] at b1 ⊢
    have n1 : ¬ (N1 = N2) := by omega
    have n2 : ¬ (N2 = N1) := by omega
    have l1 : w.heap.size ≤ N1 := by omega
    have l2 : w.heap.size ≤ N2 := by omega
    clear hN1 hN2
    have c0 : W.cell? ⟨N1, 0, none⟩ = some (.string p.1) := b1.cell 0
    have c1 : W.cell? ⟨N1, 1, none⟩ = some (.string p.2) := b1.cell 1
    have f0 := b1.frozen 0
    have f1 := b1.frozen 1
    have e0 : W.cell? ⟨N2, 0, none⟩ = some (.string ⟨#[]⟩) := b2.cell 0
    have e1 : W.cell? ⟨N2, 1, none⟩ = some (.string ⟨#[]⟩) := b2.cell 1
    have j0 := b2.frozen 0
    have j1 := b2.frozen 1
    clear b1 b2
    go_wp2_with fail
    refine bodyPost_ret (v := .agg #[.string (p.1), .string (p.2)]) (by simp [results, Tryz.results20, go_sem, c0, c1, e0, e1, n1, n2]) rfl ⟨rfl, ?_⟩
    exact (hB0.setCell (p := ⟨N2, 0, none⟩) l2 _).setCell (p := ⟨N2, 1, none⟩) l2 _
set_option maxHeartbeats 2000000 in
theorem own_any (k0 k1 m : Int) (w : World) : Calls Tryz.prog 14 #[.agg #[.int .u64 k0, .int .u64 k1, .int .u64 m]] w fun e w' => e = .returned (.agg #[.int .u64 k0, .int .u64 k1, .int .u64 m]) ∧ Below w.heap.size w w' := by
  have hB0 := ((Below.refl _ w).alloc (Nat.le_refl _) (.cells #[.int .u64 k0, .int .u64 k1, .int .u64 m] 26)).alloc (by simp) (.cells #[.int .u64 0, .int .u64 0, .int .u64 0] 40)
  have b1 := (Blk.new w 26 #[.int .u64 k0, .int .u64 k1, .int .u64 m]).alloc (.cells #[.int .u64 0, .int .u64 0, .int .u64 0] 40)
  have b2 := Blk.new (w.alloc (.cells #[.int .u64 k0, .int .u64 k1, .int .u64 m] 26)) 40 #[.int .u64 0, .int .u64 0, .int .u64 0]
  have e1 : (w.alloc (.cells #[.int .u64 k0, .int .u64 k1, .int .u64 m] 26)).heap.size = w.heap.size + 1 := by simp
  rw [e1] at b2
  clear e1
  go_enter Tryz.func14, Tryz.ntmps14
  go_upto_region 1 with (fail)
  generalize (w.alloc (.cells #[.int .u64 k0, .int .u64 k1, .int .u64 m] 26)).alloc (.cells #[.int .u64 0, .int .u64 0, .int .u64 0] 40) = W at *
  obtain ⟨N2, hN2⟩ : ∃ N2, N2 = w.heap.size + 1 := ⟨_, rfl⟩
  rw [← hN2] at b2 ⊢
  obtain ⟨N1, hN1⟩ : ∃ N1, N1 = w.heap.size := ⟨_, rfl⟩
  rw [← hN1] at b1 ⊢
  have l2 : w.heap.size ≤ N2 := by omega
  clear hN1 hN2
  have c0 : W.cell? ⟨N1, 0, none⟩ = some (.int .u64 k0) := b1.cell 0
  have c1 : W.cell? ⟨N1, 1, none⟩ = some (.int .u64 k1) := b1.cell 1
  have c2 : W.cell? ⟨N1, 2, none⟩ = some (.int .u64 m) := b1.cell 2
  have e0 : W.cell? ⟨N2, 0, none⟩ = some (.int .u64 0) := b2.cell 0
  have e1 : W.cell? ⟨N2, 1, none⟩ = some (.int .u64 0) := b2.cell 1
  have e2 : W.cell? ⟨N2, 2, none⟩ = some (.int .u64 0) := b2.cell 2
  have j0 := b2.frozen 0
  have j1 := b2.frozen 1
  have j2 := b2.frozen 2
  clear b1 b2
  go_wp2_with fail
  refine bodyPost_ret (v := .agg #[.int .u64 k0, .int .u64 k1, .int .u64 m]) (by simp [results, Tryz.results14, go_sem, e0, e1, e2]) rfl ⟨rfl, ?_⟩
  exact ((hB0.setCell (p := ⟨N2, 0, none⟩) l2 _).setCell (p := ⟨N2, 1, none⟩) l2 _).setCell (p := ⟨N2, 2, none⟩) l2 _
end Go.Proofs.YtchimfgbdfmegaaGreat
/- One block is one node: what the nodes of a trie have in common. -/
namespace Go.Proofs.YtchimfgbdfmegaaGreat
open Go.RowKit Go.Lib
set_option linter.unusedVariables false
set_option maxRecDepth 100000
set_option linter.unusedSimpArgs false
set_option maxRecDepth 100000
attribute [local irreducible] cnt
theorem flat_inj : ∀ {xs ys : List Pr}, flat xs = flat ys → xs = ys
  | [], [], _ => rfl
  | [], y :: ys, h => by simp [flat] at h
  | x :: xs, [], h => by simp [flat] at h
  | x :: xs, y :: ys, h => by
    have e : flat (x :: xs) = .string x.1 :: .string x.2 :: flat xs := rfl
    have e' : flat (y :: ys) = .string y.1 :: .string y.2 :: flat ys := rfl
    rw [e, e'] at h
    simp only [List.cons.injEq, Value.string.injEq] at h
    rw [flat_inj h.2.2, Prod.ext h.1 h.2.1]
theorem kcs_inj : ∀ {xs ys : List Nat}, kcs xs = kcs ys → xs = ys
  | [], [], _ => rfl
  | [], y :: ys, h => by simp [kcs] at h
  | x :: xs, [], h => by simp [kcs] at h
  | x :: xs, y :: ys, h => by
    simp only [kcs, List.map_cons, List.cons.injEq] at h
    have h1 : x = y := by have := h.1; unfold at0 at this; simpa using this
    rw [h1, kcs_inj (show kcs xs = kcs ys from h.2)]
theorem row_uniq {w : World} {base base' ty sz n n' : Nat} {v : Value} {xs ys : List Value} (h : w.ownsRow base ty sz v n xs) (h' : w.ownsRow base' ty sz v n' ys) (hn : n = n') : xs = ys := by
  subst hn
  by_cases h0 : 0 < n
  · obtain ⟨g, cap, cur, e, _, hB, _, _, _, ht⟩ := own_blk h h0
    obtain ⟨g', cap', cur', e', _, hB', _, _, _, ht'⟩ := own_blk h' h0
    rw [e] at e'
    simp only [Value.slice.injEq, Option.some.injEq, Addr.mk.injEq, and_true, true_and] at e'
    obtain ⟨rfl, -⟩ := e'
    unfold Blk at hB hB'
    rw [hB] at hB'
    simp only [Option.some.injEq, Obj.cells.injEq, and_true] at hB'
    rw [← ht, ← ht', hB']
  · have l1 := h.1
    have l2 := h'.1
    have e1 : xs = [] := List.length_eq_zero_iff.1 (by rw [l1]; have : n = 0 := by omega
                                                       rw [this]; simp)
    have e2 : ys = [] := List.length_eq_zero_iff.1 (by rw [l2]; have : n = 0 := by omega
                                                       rw [this]; simp)
    rw [e1, e2]
theorem own_formN {w : World} {base ty sz n : Nat} {v : Value} {xs : List Value} (h : w.ownsRow base ty sz v n xs) : ∃ A c, v = .slice A n c := by
  rcases h.2 with ⟨e, e0⟩ | ⟨g, cap, cur, e, _⟩
  · exact ⟨none, 0, by rw [e, e0]⟩
  · exact ⟨_, _, e⟩
theorem row_len {w : World} {base base' ty sz n n' : Nat} {v : Value} {xs ys : List Value} (h : w.ownsRow base ty sz v n xs) (h' : w.ownsRow base' ty sz v n' ys) : n = n' := by
  obtain ⟨A, c, e⟩ := own_formN h
  obtain ⟨A', c', e'⟩ := own_formN h'
  rw [e] at e'
  simp only [Value.slice.injEq] at e'
  exact e'.2.1
section
variable {base base' : Nat} {w : World} {b : Nat}
theorem NdV.uniq {o o' : Value} {bk bk' : Bool} {d d' nn nn' : Nat} {pv pv' kv kv' : Value} {xs xs' : List Pr} {ks ks' : List Nat} (h : NdV base w b o bk d nn pv kv xs ks) (h' : NdV base' w b o' bk' d' nn' pv' kv' xs' ks') :
    bk = bk' ∧ d = d' ∧ nn = nn' ∧ xs = xs' ∧ ks = ks' := by
  obtain ⟨c0, c1, c2, c3, c4, c5⟩ := h.cells
  obtain ⟨e0, e1, e2, e3, e4, e5⟩ := h'.cells
  rw [c1] at e1; rw [c2] at e2; rw [c3] at e3; rw [c4] at e4; rw [c5] at e5
  have f4 : pv = pv' := Option.some.inj e4
  have f5 : kv = kv' := Option.some.inj e5
  subst f4 f5
  have h1 : bk = bk' := by simpa using e1
  have h2 : d = d' := by have : (d : Int) = d' := by simpa using e2
                         omega
  have h3 : nn = nn' := by have : (nn : Int) = nn' := by simpa using e3
                           omega
  exact ⟨h1, h2, h3, flat_inj (row_uniq h.prs h'.prs (row_len h.prs h'.prs)), kcs_inj (row_uniq h.kds h'.kds (row_len h.kds h'.kds))⟩
theorem fm_uniq {α : Type} {d : Nat} {f g : Nat → Option α} (hf : BitsOf d (fun i => (f i).isSome)) (hg : BitsOf d (fun i => (g i).isSome)) (e : fm f 32 = fm g 32) (c : Nat) (hc : c < 32) : f c = g c := by
  have h1 := hf.bit c hc
  have h2 := hg.bit c hc
  have h3 : (f c).isSome = (g c).isSome := h1.symm.trans h2
  cases hfc : f c with
  | none =>
    rw [hfc] at h3
    cases hgc : g c with
    | none => rfl
    | some y => rw [hgc] at h3; simp at h3
  | some x =>
    rw [hfc] at h3
    cases hgc : g c with
    | none => rw [hgc] at h3; simp at h3
    | some y =>
      have a1 := fm_at f c x hc hfc
      have a2 := fm_at g c y hc hgc
      rw [← cnt_fm f hf c (by omega)] at a1
      rw [← cnt_fm g hg c (by omega)] at a2
      rw [e, a2] at a1
      exact a1.symm
theorem Inn.uniq {ow ow' : Option Nat} {S S' : Slots} {pv pv' kv kv' : Value} (h : Inn base w b ow S pv kv) (h' : Inn base' w b ow' S' pv' kv') (c : Nat) (hc : c < 32) : S c = S' c := by
  obtain ⟨d, nn, hN, hd, hn⟩ := h
  obtain ⟨d', nn', hN', hd', hn'⟩ := h'
  obtain ⟨-, rfl, rfl, e1, e2⟩ := hN.uniq hN'
  have p := fm_uniq hd hd' e1 c hc
  have q := fm_uniq hn hn' e2 c hc
  unfold Slots.P at p
  unfold Slots.K at q
  cases hs : S c <;> cases hs' : S' c <;> rw [hs, hs'] at p q <;> simp [Sl.p?, Sl.k?] at p q <;> first | rfl | (rw [p]) | (rw [q])
end
section
variable {H : ByteArray → Nat} {X X' : Nat → Prop} {tk tk' : Option Nat} {lv lv' : Bool} {base base' : Nat} {w : World}
/-- a block is a node of one set of pairs -/
theorem Trie.same : ∀ (n l b : Nat) (ps : List Pr) (F : Nat → Prop), Trie H X tk lv base w n l b ps F → ∀ (n' l' : Nat) (ps' : List Pr) (F' : Nat → Prop), Trie H X' tk' lv' base' w n' l' b ps' F' → ∀ p, p ∈ ps → p ∈ ps'
  | 0, l, b, ps, F, h, 0, l', ps', F', h', p, hp => by
    obtain ⟨ow, pv, kv, lo, hB, -, -⟩ := h
    obtain ⟨ow', pv', kv', lo', hB', -, -⟩ := h'
    obtain ⟨-, -, -, e, -⟩ := hB.1.uniq hB'.1
    rw [← e]; exact hp
  | 0, l, b, ps, F, h, n' + 1, l', ps', F', h', p, hp => by
    obtain ⟨ow, pv, kv, lo, hB, -, -⟩ := h
    obtain ⟨ow', pv', kv', lo', S', Fs', ⟨d', nn', hN', -, -⟩, -, -, -⟩ := h'
    exact absurd (hB.1.uniq hN').1 (by decide)
  | n + 1, l, b, ps, F, h, 0, l', ps', F', h', p, hp => by
    obtain ⟨ow, pv, kv, lo, S, Fs, ⟨d, nn, hN, -, -⟩, -, -, -⟩ := h
    obtain ⟨ow', pv', kv', lo', hB', -, -⟩ := h'
    exact absurd (hN.uniq hB'.1).1 (by decide)
  | n + 1, l, b, ps, F, h, n' + 1, l', ps', F', h', p, hp => by
    obtain ⟨ow, pv, kv, lo, S, Fs, hI, -, -, hS⟩ := h
    obtain ⟨ow', pv', kv', lo', S', Fs', hI', -, -, hS'⟩ := h'
    have hc := chk_lt H l p.1
    have e := hI.uniq hI' _ hc
    have h1 := hS _ hc
    have h2 := hS' _ hc
    have hm : p ∈ sub H l (chk H l p.1) ps := sub_mem.2 ⟨hp, rfl⟩
    unfold SlotIs at h1 h2
    rw [← e] at h2
    cases hs : S (chk H l p.1) with
    | no => rw [hs] at h1; rw [h1.1] at hm; simp at hm
    | pr q =>
      rw [hs] at h1 h2
      rw [h1.1] at hm
      have : p = q := List.mem_singleton.1 hm
      have h3 : q ∈ sub H l' (chk H l p.1) ps' := by rw [h2.1]; simp
      rw [this]; exact (sub_mem.1 h3).1
    | kd k =>
      rw [hs] at h1 h2
      exact (sub_mem.1 (Trie.same n (l + 1) k _ _ h1.2 n' (l' + 1) _ _ h2.2 p hm)).1
/-- a node's children -/
def Kd (base : Nat) (w : World) (b k : Nat) : Prop := ∃ ow S pv kv c, c < 32 ∧ Inn base w b ow S pv kv ∧ S c = .kd k
/-- what is below a node -/
inductive Dsc (base : Nat) (w : World) : Nat → Nat → Prop
  | one {b k : Nat} : Kd base w b k → Dsc base w b k
  | more {b j k : Nat} : Kd base w b j → Dsc base w j k → Dsc base w b k
theorem Trie.kid {n l b k : Nat} {ps : List Pr} {F : Nat → Prop} (h : Trie H X tk lv base w n l b ps F) (hk : Kd base w b k) : ∃ n' c G, n = n' + 1 ∧ c < 32 ∧ Trie H X tk lv base w n' (l + 1) k (sub H l c ps) G ∧ 2 ≤ (sub H l c ps).length := by
  obtain ⟨ow', S', pv', kv', c, hc, hI', hs⟩ := hk
  cases n with
  | zero =>
    obtain ⟨ow, pv, kv, lo, hB, -, -⟩ := h
    obtain ⟨d', nn', hN', -, -⟩ := hI'
    exact absurd (hB.1.uniq hN').1 (by decide)
  | succ n =>
    obtain ⟨ow, pv, kv, lo, S, Fs, hI, -, -, hS⟩ := h
    have e := hI.uniq hI' c hc
    have h1 := hS c hc
    unfold SlotIs at h1
    rw [e, hs] at h1
    exact ⟨n, c, Fs c, rfl, hc, h1.2, h1.1⟩
theorem Trie.dsc {b k : Nat} (hk : Dsc base w b k) : ∀ {n l : Nat} {ps : List Pr} {F : Nat → Prop}, Trie H X tk lv base w n l b ps F → ∃ n' l' ps' G, n' < n ∧ Trie H X tk lv base w n' l' k ps' G ∧ 2 ≤ ps'.length ∧ ∀ p ∈ ps', p ∈ ps := by
  induction hk with
  | one h1 =>
    intro n l ps F h
    obtain ⟨n', c, G, rfl, hc, hT, h2⟩ := h.kid h1
    exact ⟨n', l + 1, _, G, Nat.lt_succ_self _, hT, h2, fun p hp => (sub_mem.1 hp).1⟩
  | more h1 _ ih =>
    intro n l ps F h
    obtain ⟨n', c, G, rfl, hc, hT, h2⟩ := h.kid h1
    obtain ⟨n2, l2, ps2, G2, hlt, hT2, h3, hm⟩ := ih hT
    exact ⟨n2, l2, ps2, G2, Nat.lt_succ_of_lt hlt, hT2, h3, fun p hp => (sub_mem.1 (hm p hp)).1⟩
/-- no node is below itself -/
theorem Trie.acyclic {b : Nat} : ∀ (n l : Nat) (ps : List Pr) (F : Nat → Prop), Trie H X tk lv base w n l b ps F → ¬ Dsc base w b b := by
  intro n
  induction n using Nat.strongRecOn with
  | _ n ih =>
    intro l ps F h hd
    obtain ⟨n', l', ps', G, hlt, hT, -, -⟩ := h.dsc hd
    exact ih n' hlt l' ps' G hT hd
end
end Go.Proofs.YtchimfgbdfmegaaGreat
