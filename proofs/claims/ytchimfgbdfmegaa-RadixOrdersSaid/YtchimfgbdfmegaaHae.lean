/- What a merge by rotations does to a list: the plain part. -/
import Derived.Test.YtchimfgbdfmegaaHad
namespace Go.Proofs.Ytchimfgbdfmegaa
set_option linter.unusedVariables false
set_option maxRecDepth 100000
set_option linter.unusedSimpArgs false

theorem pat_congr {xs ys : List Pr} {p : Nat} (h : ys[p]? = xs[p]?) : pat ys p = pat xs p := by unfold pat; rw [h]
/-- ys is xs with the stretch from a to b in another order, the pairs of each key in the same one -/
structure Re (xs ys : List Pr) (a b : Nat) : Prop where
  len : ys.length = xs.length
  stab : Stab xs ys
  out : ∀ p, p < a ∨ b ≤ p → ys[p]? = xs[p]?
  win : ∀ p, a ≤ p → p < b → ∃ q, a ≤ q ∧ q < b ∧ pat ys p = pat xs q
theorem Re.refl (xs : List Pr) (a b : Nat) : Re xs xs a b := ⟨rfl, Stab.refl _, fun _ _ => rfl, fun p h1 h2 => ⟨p, h1, h2, rfl⟩⟩
theorem Re.trans {xs ys zs : List Pr} {a b : Nat} (h : Re xs ys a b) (k : Re ys zs a b) : Re xs zs a b :=
  ⟨k.len.trans h.len, h.stab.trans k.stab, fun p hp => (k.out p hp).trans (h.out p hp), fun p h1 h2 => by
    obtain ⟨q, q1, q2, e⟩ := k.win p h1 h2
    obtain ⟨r, r1, r2, e'⟩ := h.win q q1 q2
    exact ⟨r, r1, r2, e.trans e'⟩⟩
theorem Re.mono {xs ys : List Pr} {a b a' b' : Nat} (h : Re xs ys a b) (ha : a' ≤ a) (hb : b ≤ b') : Re xs ys a' b' :=
  ⟨h.len, h.stab, fun p hp => h.out p (by omega), fun p h1 h2 => by
    by_cases hp : a ≤ p ∧ p < b
    · obtain ⟨q, q1, q2, e⟩ := h.win p hp.1 hp.2
      exact ⟨q, by omega, by omega, e⟩
    · exact ⟨p, h1, h2, pat_congr (h.out p (by omega))⟩⟩
/-- of two lists of one length with the same pairs at all places -/
theorem get_of_pat {xs ys : List Pr} (hl : ys.length = xs.length) {p : Nat} (h : pat ys p = pat xs p) : ys[p]? = xs[p]? := by
  by_cases hp : p < xs.length
  · rw [pat_get hp, pat_get (by omega), h]
  · rw [List.getElem?_eq_none (by omega), List.getElem?_eq_none (by omega)]

/-- the pair of place a has come to place k, those between one down -/
def Up (xs zs : List Pr) (a k : Nat) : Prop := zs.length = xs.length ∧ Stab xs zs ∧ ∀ p, pat zs p = if p < a then pat xs p else if p < k then pat xs (p + 1) else if p = k then pat xs a else pat xs p
theorem up_start (xs : List Pr) (a : Nat) : Up xs xs a a := ⟨rfl, Stab.refl _, fun p => by
  by_cases h1 : p < a
  · simp [h1]
  · by_cases h2 : p = a <;> simp [h1, h2]⟩
theorem up_step {xs zs : List Pr} {a k : Nat} (h : Up xs zs a k) (hak : a ≤ k) (hl : k + 1 < xs.length) (hlt : Lt (kat xs (k + 1)) (kat xs a)) : Up xs (sw zs k (k + 1)) a (k + 1) := by
  obtain ⟨h1, h2, h3⟩ := h
  have ek : pat zs k = pat xs a := by rw [h3]; simp; omega
  have ek1 : pat zs (k + 1) = pat xs (k + 1) := by
    rw [h3, if_neg (by omega), if_neg (by omega), if_neg (by omega)]
  have esw : sw zs k (k + 1) = sw zs (k + 1) k := by
    unfold sw
    rw [List.set_comm]
    omega
  refine ⟨by rw [sw_length]; exact h1, h2.trans ?_, fun p => ?_⟩
  · rw [esw]
    refine stab_sw (by omega) ?_
    unfold kat
    rw [ek, ek1]
    exact hlt.ne
  · rw [pat_sw (by omega) (by omega), ek, ek1, h3 p]
    by_cases e1 : p = k + 1
    · subst e1; simp; omega
    · by_cases e2 : p = k
      · subst e2; simp; omega
      · rw [if_neg e1, if_neg e2]
        by_cases e3 : p < a
        · simp [e3]
        · rw [if_neg e3, if_neg e3]
          by_cases e4 : p < k
          · rw [if_pos e4, if_pos (by omega)]
          · rw [if_neg e4, if_neg e2, if_neg (by omega), if_neg e1]
theorem up_end {xs zs : List Pr} {a b i : Nat} (h : Up xs zs a (i - 1)) (hai : a < i) (hib : i ≤ b) (hb : b ≤ xs.length) (hs : Srt xs (a + 1) b) (hlo : ∀ q, a < q → q < i → Lt (kat xs q) (kat xs a)) (hhi : ∀ q, i ≤ q → q < b → Le (kat xs a) (kat xs q)) :
    Re xs zs a b ∧ Srt zs a b := by
  obtain ⟨h1, h2, h3⟩ := h
  have hk : ∀ p, kat zs p = if p < a then kat xs p else if p < i - 1 then kat xs (p + 1) else if p = i - 1 then kat xs a else kat xs p := fun p => by
    unfold kat; rw [h3 p]; split
    · rfl
    · split
      · rfl
      · split <;> rfl
  refine ⟨⟨h1, h2, fun p hp => get_of_pat h1 ?_, fun p p1 p2 => ?_⟩, fun p q p1 p2 p3 => ?_⟩
  · rw [h3 p]
    by_cases e : p < a
    · simp [e]
    · rw [if_neg e, if_neg (by omega), if_neg (by omega)]
  · by_cases e1 : p < i - 1
    · exact ⟨p + 1, by omega, by omega, by rw [h3 p, if_neg (by omega), if_pos e1]⟩
    · by_cases e2 : p = i - 1
      · exact ⟨a, by omega, by omega, by rw [h3 p, if_neg (by omega), if_neg e1, if_pos e2]⟩
      · exact ⟨p, by omega, by omega, by rw [h3 p, if_neg (by omega), if_neg e1, if_neg e2]⟩
  · have z1 : ∀ p, a ≤ p → p < i - 1 → kat zs p = kat xs (p + 1) := fun p h h' => by rw [hk p, if_neg (by omega), if_pos h']
    have z2 : ∀ p, p = i - 1 → kat zs p = kat xs a := fun p h => by rw [hk p, if_neg (by omega), if_neg (by omega), if_pos h]
    have z3 : ∀ p, i - 1 < p → kat zs p = kat xs p := fun p h => by rw [hk p, if_neg (by omega), if_neg (by omega), if_neg (by omega)]
    by_cases e1 : p < i - 1
    · rw [z1 p p1 e1]
      by_cases f1 : q < i - 1
      · rw [z1 q (by omega) f1]; exact hs (p + 1) (q + 1) (by omega) (by omega) (by omega)
      · by_cases f2 : q = i - 1
        · rw [z2 q f2]; exact (hlo (p + 1) (by omega) (by omega)).le
        · rw [z3 q (by omega)]; exact hs (p + 1) q (by omega) (by omega) p3
    · by_cases e2 : p = i - 1
      · rw [z2 p e2, z3 q (by omega)]
        exact hhi q (by omega) p3
      · rw [z3 p (by omega), z3 q (by omega)]
        exact hs p q (by omega) p2 p3

/-- the pair of place m has come down to place k -/
def Dn (xs zs : List Pr) (m k : Nat) : Prop := zs.length = xs.length ∧ Stab xs zs ∧ ∀ p, pat zs p = if p = k then pat xs m else if k < p ∧ p ≤ m then pat xs (p - 1) else pat xs p
theorem dn_start (xs : List Pr) (m : Nat) : Dn xs xs m m := ⟨rfl, Stab.refl _, fun p => by
  by_cases h : p = m
  · simp [h]
  · rw [if_neg h, if_neg (by omega)]⟩
theorem dn_step {xs zs : List Pr} {m k : Nat} (h : Dn xs zs m (k + 1)) (hkm : k + 1 ≤ m) (hl : m < xs.length) (hlt : Lt (kat xs m) (kat xs k)) : Dn xs (sw zs (k + 1) k) m k := by
  obtain ⟨h1, h2, h3⟩ := h
  have ek1 : pat zs (k + 1) = pat xs m := by rw [h3]; simp
  have ek : pat zs k = pat xs k := by rw [h3, if_neg (by omega), if_neg (by omega)]
  refine ⟨by rw [sw_length]; exact h1, h2.trans (stab_sw (by omega) ?_), fun p => ?_⟩
  · unfold kat
    rw [ek, ek1]
    exact hlt.ne
  · rw [pat_sw (by omega) (by omega), ek, ek1, h3 p]
    by_cases e1 : p = k
    · subst e1; simp
    · by_cases e2 : p = k + 1
      · subst e2
        rw [if_neg e1, if_pos rfl, if_neg e1, if_pos (by omega)]
        rfl
      · rw [if_neg e1, if_neg e2, if_neg e2, if_neg e1]
        by_cases e3 : k + 1 < p ∧ p ≤ m
        · rw [if_pos e3, if_pos (by omega)]
        · rw [if_neg e3, if_neg (by omega)]
theorem dn_end {xs zs : List Pr} {a m i : Nat} (h : Dn xs zs m i) (hai : a ≤ i) (him : i ≤ m) (hb : m < xs.length) (hs : Srt xs a m) (hlo : ∀ q, a ≤ q → q < i → Le (kat xs q) (kat xs m)) (hhi : ∀ q, i ≤ q → q < m → Lt (kat xs m) (kat xs q)) :
    Re xs zs a (m + 1) ∧ Srt zs a (m + 1) := by
  obtain ⟨h1, h2, h3⟩ := h
  have hk : ∀ p, kat zs p = if p = i then kat xs m else if i < p ∧ p ≤ m then kat xs (p - 1) else kat xs p := fun p => by
    unfold kat; rw [h3 p]; split
    · rfl
    · split <;> rfl
  refine ⟨⟨h1, h2, fun p hp => get_of_pat h1 ?_, fun p p1 p2 => ?_⟩, fun p q p1 p2 p3 => ?_⟩
  · rw [h3 p, if_neg (by omega), if_neg (by omega)]
  · by_cases e1 : p = i
    · exact ⟨m, by omega, by omega, by rw [h3 p, if_pos e1]⟩
    · by_cases e2 : i < p ∧ p ≤ m
      · exact ⟨p - 1, by omega, by omega, by rw [h3 p, if_neg e1, if_pos e2]⟩
      · exact ⟨p, by omega, by omega, by rw [h3 p, if_neg e1, if_neg e2]⟩
  · rw [hk p, hk q]
    by_cases e1 : p = i
    · rw [if_pos e1, if_neg (by omega), if_pos (by omega)]
      exact (hhi (q - 1) (by omega) (by omega)).le
    · rw [if_neg e1]
      by_cases e2 : i < p ∧ p ≤ m
      · rw [if_pos e2, if_neg (by omega), if_pos (by omega)]
        exact hs (p - 1) (q - 1) (by omega) (by omega) (by omega)
      · rw [if_neg e2]
        by_cases f1 : q = i
        · rw [if_pos f1]; exact hlo p p1 (by omega)
        · rw [if_neg f1]
          by_cases f2 : i < q ∧ q ≤ m
          · rw [if_pos f2]
            by_cases g : p = q - 1
            · rw [g]; exact Le.refl _
            · exact hs p (q - 1) p1 (by omega) (by omega)
          · rw [if_neg f2]; exact hs p q p1 p2 (by omega)

/-- the stretches from s to m and from m to e have changed places; mid is where they now meet -/
def Rt (xs zs : List Pr) (s m mid e : Nat) : Prop := zs.length = xs.length ∧ Stab xs zs ∧ ∀ p, pat zs p = if p < s then pat xs p else if p < mid then pat xs (p + (m - s)) else if p < e then pat xs (p - (mid - s)) else pat xs p
theorem rt_same (xs : List Pr) (s m mid e : Nat) (h : s ≤ m) (hme : m ≤ e) (hmid : mid + m = s + e) (h0 : s = m ∨ m = e) : Rt xs xs s m mid e := ⟨rfl, Stab.refl _, fun p => by
  by_cases h1 : p < s
  · simp [h1]
  · rw [if_neg h1]
    by_cases h2 : p < mid
    · rw [if_pos h2]; congr 1; omega
    · rw [if_neg h2]
      by_cases h3 : p < e
      · rw [if_pos h3]; congr 1; omega
      · rw [if_neg h3]⟩
theorem pat4 (A V U R : List Pr) (p : Nat) : pat (A ++ V ++ U ++ R) p = if p < A.length then pat A p else if p < A.length + V.length then pat V (p - A.length) else if p < A.length + V.length + U.length then pat U (p - A.length - V.length) else pat R (p - A.length - V.length - U.length) := by
  unfold pat
  by_cases c1 : p < A.length
  · rw [if_pos c1, List.getElem?_append_left (by simp; omega), List.getElem?_append_left (by simp; omega), List.getElem?_append_left c1]
  · rw [if_neg c1]
    by_cases c2 : p < A.length + V.length
    · rw [if_pos c2, List.getElem?_append_left (by simp; omega), List.getElem?_append_left (by simp; omega), List.getElem?_append_right (by omega)]
    · rw [if_neg c2]
      by_cases c3 : p < A.length + V.length + U.length
      · rw [if_pos c3, List.getElem?_append_left (by simp; omega), List.getElem?_append_right (by simp; omega), List.length_append, Nat.sub_sub]
      · rw [if_neg c3, List.getElem?_append_right (by simp; omega), List.length_append, List.length_append, Nat.sub_sub, Nat.sub_sub, Nat.add_assoc]
theorem rt_rot {xs : List Pr} {s m mid e : Nat} (h1 : s ≤ m) (h2 : m ≤ e) (h3 : e ≤ xs.length) (hmid : mid + m = s + e) (hd : ∀ p q, s ≤ p → p < m → m ≤ q → q < e → Lt (kat xs q) (kat xs p)) :
    Rt xs (xs.take s ++ (xs.drop m).take (e - m) ++ (xs.drop s).take (m - s) ++ xs.drop e) s m mid e := by
  have e1 : xs = xs.take s ++ (xs.drop s).take (m - s) ++ (xs.drop m).take (e - m) ++ xs.drop e := by
    have a1 : xs.drop s = (xs.drop s).take (m - s) ++ xs.drop m := by
      conv => lhs; rw [← List.take_append_drop (m - s) (xs.drop s)]
      rw [List.drop_drop, show s + (m - s) = m by omega]
    have a2 : xs.drop m = (xs.drop m).take (e - m) ++ xs.drop e := by
      conv => lhs; rw [← List.take_append_drop (e - m) (xs.drop m)]
      rw [List.drop_drop, show m + (e - m) = e by omega]
    conv => lhs; rw [← List.take_append_drop s xs, a1, a2]
    simp only [List.append_assoc]
  have l1 : (xs.take s).length = s := by rw [List.length_take]; omega
  have l2 : ((xs.drop s).take (m - s)).length = m - s := by rw [List.length_take, List.length_drop]; omega
  have l3 : ((xs.drop m).take (e - m)).length = e - m := by rw [List.length_take, List.length_drop]; omega
  refine ⟨?_, ?_, fun p => ?_⟩
  · simp only [List.length_append, l1, l2, l3, List.length_drop]; omega
  · have := stab_rot (xs.take s) ((xs.drop s).take (m - s)) ((xs.drop m).take (e - m)) (xs.drop e) (by
      intro x hx y hy
      obtain ⟨i, hi, rfl⟩ := List.getElem_of_mem hx
      obtain ⟨j, hj, rfl⟩ := List.getElem_of_mem hy
      rw [l2] at hi
      rw [l3] at hj
      have := (hd (s + i) (m + j) (by omega) (by omega) (by omega) (by omega)).ne
      unfold kat pat at this
      rw [List.getElem?_eq_getElem (by omega : s + i < xs.length), List.getElem?_eq_getElem (by omega : m + j < xs.length)] at this
      simp at this ⊢
      exact fun h => this h.symm)
    rw [← e1] at this
    exact this
  · have hA : ∀ p, p < s → pat (xs.take s) p = pat xs p := fun p h => by unfold pat; rw [List.getElem?_take, if_pos h]
    have hV : ∀ i, i < e - m → pat ((xs.drop m).take (e - m)) i = pat xs (m + i) := fun i h => by unfold pat; rw [List.getElem?_take, if_pos h, List.getElem?_drop]
    have hU : ∀ i, i < m - s → pat ((xs.drop s).take (m - s)) i = pat xs (s + i) := fun i h => by unfold pat; rw [List.getElem?_take, if_pos h, List.getElem?_drop]
    have hR : ∀ i, pat (xs.drop e) i = pat xs (e + i) := fun i => by unfold pat; rw [List.getElem?_drop]
    rw [pat4, l1, l2, l3]
    by_cases c1 : p < s
    · rw [if_pos c1, if_pos c1, hA p c1]
    · rw [if_neg c1, if_neg c1]
      by_cases c2 : p < mid
      · rw [if_pos c2, if_pos (by omega), hV _ (by omega)]
        congr 1; omega
      · rw [if_neg c2, if_neg (by omega)]
        by_cases c3 : p < e
        · rw [if_pos c3, if_pos (by omega), hU _ (by omega)]
          congr 1; omega
        · rw [if_neg c3, if_neg (by omega), hR]
          congr 1; omega
/-- what holds behind the exchange: four sorted stretches, and none of the left half is greater than one of the right -/
theorem rt_parts {xs zs : List Pr} {a s m mid e b : Nat} (h : Rt xs zs s m mid e) (h1 : a ≤ s) (h2 : s ≤ m) (h3 : m ≤ e) (h4 : e ≤ b) (h5 : b ≤ xs.length) (hmid : mid + m = s + e) (hs1 : Srt xs a m) (hs2 : Srt xs m b)
    (hA : a < s → e < b → Le (kat xs (s - 1)) (kat xs e)) (hB : s < m → m < e → Lt (kat xs (e - 1)) (kat xs s)) :
    Re xs zs a b ∧ Srt zs a s ∧ Srt zs s mid ∧ Srt zs mid e ∧ Srt zs e b ∧ ∀ p q, a ≤ p → p < mid → mid ≤ q → q < b → Le (kat zs p) (kat zs q) := by
  obtain ⟨g1, g2, g3⟩ := h
  have hk : ∀ p, kat zs p = if p < s then kat xs p else if p < mid then kat xs (p + (m - s)) else if p < e then kat xs (p - (mid - s)) else kat xs p := fun p => by
    unfold kat; rw [g3 p]; split
    · rfl
    · split
      · rfl
      · split <;> rfl
  have z0 : ∀ p, p < s → kat zs p = kat xs p := fun p h => by rw [hk p, if_pos h]
  have z1 : ∀ p, s ≤ p → p < mid → kat zs p = kat xs (p + (m - s)) := fun p h h' => by rw [hk p, if_neg (by omega), if_pos h']
  have z2 : ∀ p, mid ≤ p → p < e → kat zs p = kat xs (p - (mid - s)) := fun p h h' => by rw [hk p, if_neg (by omega), if_neg (by omega), if_pos h']
  have z3 : ∀ p, e ≤ p → kat zs p = kat xs p := fun p h => by rw [hk p, if_neg (by omega), if_neg (by omega), if_neg (by omega)]
  have leS : ∀ p q, a ≤ p → p ≤ q → q < m → Le (kat xs p) (kat xs q) := fun p q p1 p2 p3 => by
    by_cases e : p = q
    · rw [e]; exact Le.refl _
    · exact hs1 p q p1 (by omega) p3
  have leM : ∀ p q, m ≤ p → p ≤ q → q < b → Le (kat xs p) (kat xs q) := fun p q p1 p2 p3 => by
    by_cases e : p = q
    · rw [e]; exact Le.refl _
    · exact hs2 p q p1 (by omega) p3
  refine ⟨⟨g1, g2, fun p hp => get_of_pat g1 ?_, fun p p1 p2 => ?_⟩, fun p q p1 p2 p3 => ?_, fun p q p1 p2 p3 => ?_, fun p q p1 p2 p3 => ?_, fun p q p1 p2 p3 => ?_, fun p q p1 p2 p3 p4 => ?_⟩
  · rw [g3 p]
    by_cases e0 : p < s
    · simp [e0]
    · rw [if_neg e0, if_neg (by omega), if_neg (by omega)]
  · by_cases e1 : p < s
    · exact ⟨p, p1, p2, by rw [g3 p, if_pos e1]⟩
    · by_cases e2 : p < mid
      · exact ⟨p + (m - s), by omega, by omega, by rw [g3 p, if_neg e1, if_pos e2]⟩
      · by_cases e3 : p < e
        · exact ⟨p - (mid - s), by omega, by omega, by rw [g3 p, if_neg e1, if_neg e2, if_pos e3]⟩
        · exact ⟨p, p1, p2, by rw [g3 p, if_neg e1, if_neg e2, if_neg e3]⟩
  · rw [z0 p (by omega), z0 q (by omega)]; exact hs1 p q p1 p2 (by omega)
  · rw [z1 p p1 (by omega), z1 q (by omega) p3]
    exact hs2 _ _ (by omega) (by omega) (by omega)
  · rw [z2 p p1 (by omega), z2 q (by omega) p3]
    exact hs1 _ _ (by omega) (by omega) (by omega)
  · rw [z3 p p1, z3 q (by omega)]
    exact hs2 _ _ (by omega) p2 p3
  · by_cases e1 : p < s
    · rw [z0 p e1]
      by_cases f : q < e
      · rw [z2 q p3 f]; exact leS _ _ p1 (by omega) (by omega)
      · rw [z3 q (by omega)]
        exact ((leS p (s - 1) p1 (by omega) (by omega)).trans (hA (by omega) (by omega))).trans (leM e q (by omega) (by omega) p4)
    · rw [z1 p (by omega) p2]
      by_cases f : q < e
      · rw [z2 q p3 f]
        exact ((leM (p + (m - s)) (e - 1) (by omega) (by omega) (by omega)).trans (hB (by omega) (by omega)).le).trans (leS s (q - (mid - s)) (by omega) (by omega) (by omega))
      · rw [z3 q (by omega)]; exact leM _ _ (by omega) (by omega) p4
/-- both halves sorted, none of the left greater than one of the right -/
theorem srt_join {ys zs : List Pr} {a mid b : Nat} (h1 : a ≤ mid) (h2 : mid ≤ b) (hs1 : Srt ys a mid) (hs2 : Srt ys mid b) (hsep : ∀ p q, a ≤ p → p < mid → mid ≤ q → q < b → Le (kat ys p) (kat ys q)) : Srt ys a b := fun p q p1 p2 p3 => by
  by_cases e1 : q < mid
  · exact hs1 p q p1 p2 e1
  · by_cases e2 : p < mid
    · exact hsep p q p1 e2 (by omega) p3
    · exact hs2 p q (by omega) p2 p3
theorem sep_left {xs ys : List Pr} {a mid b : Nat} (h : Re xs ys a mid) (hsep : ∀ p q, a ≤ p → p < mid → mid ≤ q → q < b → Le (kat xs p) (kat xs q)) : ∀ p q, a ≤ p → p < mid → mid ≤ q → q < b → Le (kat ys p) (kat ys q) := fun p q p1 p2 p3 p4 => by
  obtain ⟨r, r1, r2, e⟩ := h.win p p1 p2
  have eq : kat ys q = kat xs q := by unfold kat; rw [pat_congr (h.out q (.inr p3))]
  have ep : kat ys p = kat xs r := by unfold kat; rw [e]
  rw [ep, eq]; exact hsep r q r1 r2 p3 p4
theorem sep_right {xs ys : List Pr} {a mid b : Nat} (h : Re xs ys mid b) (hsep : ∀ p q, a ≤ p → p < mid → mid ≤ q → q < b → Le (kat xs p) (kat xs q)) : ∀ p q, a ≤ p → p < mid → mid ≤ q → q < b → Le (kat ys p) (kat ys q) := fun p q p1 p2 p3 p4 => by
  obtain ⟨r, r1, r2, e⟩ := h.win q p3 p4
  have ep : kat ys p = kat xs p := by unfold kat; rw [pat_congr (h.out p (.inl p2))]
  have eq : kat ys q = kat xs r := by unfold kat; rw [e]
  rw [ep, eq]; exact hsep p r p1 p2 r1 r2
theorem srt_out {xs ys : List Pr} {a b c d : Nat} (h : Re xs ys a b) (hs : Srt xs c d) (hd : d ≤ a ∨ b ≤ c) : Srt ys c d := fun p q p1 p2 p3 => by
  have ep : kat ys p = kat xs p := by unfold kat; rw [pat_congr (h.out p (by omega))]
  have eq : kat ys q = kat xs q := by unfold kat; rw [pat_congr (h.out q (by omega))]
  rw [ep, eq]; exact hs p q p1 p2 p3
end Go.Proofs.Ytchimfgbdfmegaa
/- The merge of two sorted stretches of which one has one pair. -/
namespace Go.Proofs.Ytchimfgbdfmegaa
open Go.RowKit Go.Lib
set_option linter.unusedVariables false
set_option maxRecDepth 100000
set_option linter.unusedSimpArgs false
def MergePost (base g cap : Nat) (xs : List Pr) (a b : Nat) (w : World) (e : Ending) (w' : World) : Prop :=
  e = .returned (.tuple #[]) ∧ ∃ ys, Own base w' (.slice (some ⟨g, 0, none⟩) xs.length cap) ys ∧ Re xs ys a b ∧ Srt ys a b ∧ Keep [g] w w'

set_option maxRecDepth 100000 in
set_option maxHeartbeats 16000000 in
theorem merge1 (base g cap : Nat) (xs : List Pr) (a m b : Nat) (w : World) (hO : Own base w (.slice (some ⟨g, 0, none⟩) xs.length cap) xs) (hm : m = a + 1) (hmb : m < b) (hb : b ≤ xs.length) (hn : xs.length ≤ 1000) (hs : Srt xs m b) :
    Calls Try.prog 105 #[.slice (some ⟨g, 0, none⟩) xs.length cap, .int .i64 a, .int .i64 m, .int .i64 b, fn43] w (MergePost base g cap xs a b w) := by
  obtain ⟨N, hN⟩ : ∃ N, N = xs.length := ⟨_, rfl⟩
  rw [← hN] at hO hb hn ⊢
  have HN := Lib.hid hN
  have HM := Lib.hid hm
  have HS := Lib.hid hs
  have F0 : IntKind.i64.wrap ((m : Int) - (a : Int)) = 1 := by rw [IntWalk.i64_in _ (by omega)]; omega
  have hma : a < m := by omega
  have hm2 : m ≤ a + 1 := by omega
  clear hN hm hs
  unfold fn43
  go_enter Try.func105, Try.ntmps105
  go_wp2_with fail
  clear F0
  go_loopw [10, 11] (fun vi vj wr => ∃ (i j : Nat), vi = .int .i64 i ∧ vj = .int .i64 j ∧ m ≤ i ∧ i ≤ j ∧ j ≤ b ∧ Hid (∀ q, m ≤ q → q < i → Lt (kat xs q) (kat xs a)) ∧ Hid (∀ q, j ≤ q → q < b → Le (kat xs a) (kat xs q)) ∧ Own base wr (.slice (some ⟨g, 0, none⟩) N cap) xs ∧ Keep [g] w wr) (fun vi vj wr => (intOf vj).toNat - (intOf vi).toNat)
  case atStart => exact ⟨m, b, rfl, rfl, Nat.le_refl _, by omega, Nat.le_refl _, Lib.hid (fun q h1 h2 => by omega), Lib.hid (fun q h1 h2 => by omega), hO, Keep.refl _ _⟩
  case round =>
    clear hO
    obtain ⟨i, j, rfl, rfl, hi, hij, hj, hlo, hhi, hO, hK⟩ := hrel
    by_cases hlt : i < j
    · obtain ⟨h, hh⟩ : ∃ h, h = (i + j) / 2 := ⟨_, rfl⟩
      have B1 : i ≤ h ∧ h < j := by omega
      have E1 : IntKind.i64.wrap ((i : Int) + (j : Int)) = (i : Int) + (j : Int) := IntWalk.i64_in _ (by omega)
      have E2 : ((i : Int) + (j : Int)) / 2 = (h : Int) := by omega
      have E3 : IntKind.i64.wrap ((h : Int) + 1) = ((h + 1 : Nat) : Int) := by rw [IntWalk.i64_in _ (by omega)]; omega
      clear hh
      obtain ⟨c0, c1, -, -⟩ := hO.two h (by have := HN.out; omega)
      obtain ⟨d0, d1, -, -⟩ := hO.two a (by have := HN.out; omega)
      have c0' : wr.drew.cell? ⟨g, h * 2, none⟩ = _ := c0
      have c1' : wr.drew.cell? ⟨g, h * 2 + 1, none⟩ = _ := c1
      have d0' : wr.drew.cell? ⟨g, a * 2, none⟩ = _ := d0
      have d1' : wr.drew.cell? ⟨g, a * 2 + 1, none⟩ = _ := d1
      have B2 : (h : Int) < (N : Int) := by omega
      have B3 : (a : Int) < (N : Int) := by omega
      go_wp2_with fail
      go_still_tail 9, (by kernel_rfl)
      change wpList _ _ _ _ _ wr.drew
      have hOd : Own base wr.drew (.slice (some ⟨g, 0, none⟩) N cap) xs := hO
      have hKd : Keep [g] w wr.drew := hK.trans (Keep.of_below (Below.refl _ wr).drew)
      clear c0 c1 d0 d1 c0' c1' d0' d1' hO hK E1 E2
      generalize wr.drew = wd at *
      go_wp2_with fail
      refine (cmp43 (pat xs h) (pat xs a) _).mono ?_
      rintro e w1 ⟨rfl, hb1⟩
      have hO1 : Own base w1 (.slice (some ⟨g, 0, none⟩) N cap) xs := own_keep hOd (Keep.of_below (X := []) hb1) (by simp)
      have hK1 : Keep [g] w w1 := hKd.trans (Keep.of_below hb1)
      clear hOd hKd hb1
      by_cases hcmp : cmpS (pat xs h).1 (pat xs a).1 < 0
      · have S : Hid (∀ q, m ≤ q → q < h + 1 → Lt (kat xs q) (kat xs a)) := Lib.hid (fun q q1 q2 => by
          by_cases e : q = h
          · rw [e]; exact hcmp
          · exact (HS.out q h q1 (by omega) (by omega)).trans_lt hcmp)
        go_wp2_with fail
        refine ⟨⟨h + 1, j, by go_num, rfl, by omega, by omega, hj, S, hhi, hO1, hK1⟩, ?_⟩
        simp [intOf]; omega
      · have hge : 0 ≤ cmpS (pat xs h).1 (pat xs a).1 := by omega
        have S : Hid (∀ q, h ≤ q → q < b → Le (kat xs a) (kat xs q)) := Lib.hid (fun q q1 q2 => by
          have h0 : Le (kat xs a) (kat xs h) := hge
          by_cases e : q = h
          · rw [e]; exact h0
          · exact h0.trans (HS.out h q (by omega) (by omega) q2))
        go_wp2_with fail
        refine ⟨⟨i, h, rfl, rfl, hi, by omega, by omega, hlo, S, hO1, hK1⟩, ?_⟩
        simp [intOf]; omega
    · obtain rfl : i = j := by omega
      have E1 : IntKind.i64.wrap ((i : Int) - 1) = ((i - 1 : Nat) : Int) := by rw [IntWalk.i64_in _ (by omega)]; omega
      obtain ⟨i1, hi1⟩ : ∃ i1, i1 = i - 1 := ⟨_, rfl⟩
      rw [← hi1] at E1
      have B0 : i1 + 1 = i := by omega
      have HI1 := Lib.hid hi1
      clear hi1
      go_wp2_with fail
      go_loopw [13] (fun vk wr => ∃ (k : Nat) (zs : List Pr), vk = .int .i64 k ∧ a ≤ k ∧ k ≤ i1 ∧ Hid (Up xs zs a k) ∧ Own base wr (.slice (some ⟨g, 0, none⟩) N cap) zs ∧ Keep [g] w wr) (fun vk wr => i1 - (intOf vk).toNat)
      case atStart => exact ⟨a, xs, rfl, Nat.le_refl _, by omega, Lib.hid (up_start xs a), hO, hK⟩
      case round =>
        clear hO hK
        obtain ⟨k, zs, rfl, hk, hki, hU, hO, hK⟩ := hrel
        by_cases hlt2 : k < i1
        · have hzl : zs.length = N := by have := hU.out.1; rw [HN.out]; exact this
          obtain ⟨kk, hkk⟩ : ∃ kk, kk = k + 1 := ⟨_, rfl⟩
          have F1 : IntKind.i64.wrap ((k : Int) + 1) = (kk : Int) := by rw [IntWalk.i64_in _ (by omega)]; omega
          have F3 : (k : Int) < (N : Int) := by omega
          have F4 : (kk : Int) < (N : Int) := by omega
          obtain ⟨c0, c1, f0, f1⟩ := hO.two k (by omega)
          obtain ⟨d0, d1, e0, e1⟩ := hO.two kk (by omega)
          have hsw := Lib.hid (hO.swap k kk (by omega) (by omega))
          have hKs := Lib.hid (((((hK.trans (Keep.of_below (Below.refl _ wr).drew)).setCell (p := ⟨g, k * 2, none⟩) (by simp) (.string (pat zs kk).1)).setCell (p := ⟨g, k * 2 + 1, none⟩) (by simp) (.string (pat zs kk).2)).setCell (p := ⟨g, kk * 2, none⟩) (by simp) (.string (pat zs k).1)).setCell (p := ⟨g, kk * 2 + 1, none⟩) (by simp) (.string (pat zs k).2))
          have hUs : Hid (Up xs (sw zs k kk) a kk) := Lib.hid (by
            rw [hkk]
            exact up_step hU.out hk (by have := HN.out; omega) (hlo.out (k + 1) (by omega) (by omega)))
          have n1 : k * 2 ≠ kk * 2 := by omega
          have n2 : k * 2 ≠ kk * 2 + 1 := by omega
          have n3 : k * 2 + 1 ≠ kk * 2 := by omega
          have n4 : k * 2 + 1 ≠ kk * 2 + 1 := by omega
          have n5 := Ne.symm n1
          have n6 := Ne.symm n2
          have n7 := Ne.symm n3
          have n8 := Ne.symm n4
          have bk : kk ≤ i1 ∧ a ≤ kk ∧ kk = k + 1 := by omega
          have HBK := Lib.hid bk
          clear hO hK hkk bk hzl
          go_wp2_with fail
          go_region
          all_goals
            go_wp2_with fail
            refine ⟨⟨kk, sw zs k kk, rfl, HBK.out.2.1, HBK.out.1, hUs, hsw.out, hKs.out⟩, ?_⟩
            have := HBK.out
            simp [intOf]; omega
        · obtain rfl : k = i1 := by omega
          go_wp2_with fail
          refine bodyPost_ret (results_none rfl _ _ _) rfl ?_
          have hU' := hU.out
          rw [show k = i - 1 by omega] at hU'
          have hfin := up_end hU' (by omega) hj (by rw [← HN.out]; exact hb) (by have := HM.out; rw [← this]; exact HS.out) (fun q q1 q2 => hlo.out q (by omega) q2) hhi.out
          refine ⟨rfl, zs, ?_, hfin.1, hfin.2, hK⟩
          rw [← HN.out]; exact hO
end Go.Proofs.Ytchimfgbdfmegaa
/- The merge of two sorted stretches of which the second has one pair. -/
namespace Go.Proofs.Ytchimfgbdfmegaa
open Go.RowKit Go.Lib
set_option linter.unusedVariables false
set_option maxRecDepth 100000
set_option linter.unusedSimpArgs false

set_option maxRecDepth 100000 in
set_option maxHeartbeats 16000000 in
theorem merge2 (base g cap : Nat) (xs : List Pr) (a m b : Nat) (w : World) (hO : Own base w (.slice (some ⟨g, 0, none⟩) xs.length cap) xs) (hm : b = m + 1) (hma : a + 1 < m) (hb : b ≤ xs.length) (hn : xs.length ≤ 1000) (hs : Srt xs a m) :
    Calls Try.prog 105 #[.slice (some ⟨g, 0, none⟩) xs.length cap, .int .i64 a, .int .i64 m, .int .i64 b, fn43] w (MergePost base g cap xs a b w) := by
  obtain ⟨N, hN⟩ : ∃ N, N = xs.length := ⟨_, rfl⟩
  rw [← hN] at hO hb hn ⊢
  obtain ⟨d, hd⟩ : ∃ d, d = m - a := ⟨_, rfl⟩
  have HN := Lib.hid hN
  have HM := Lib.hid hm
  have HS := Lib.hid hs
  have F0 : IntKind.i64.wrap ((m : Int) - (a : Int)) = (d : Int) := by rw [IntWalk.i64_in _ (by omega)]; omega
  have F00 : ((d : Int) == 1) = false := by rw [beq_eq_false_iff_ne]; omega
  have F9 : IntKind.i64.wrap ((b : Int) - (m : Int)) = 1 := by rw [IntWalk.i64_in _ (by omega)]; omega
  have hmN : m < N := by omega
  clear hN hm hs hd
  unfold fn43
  go_enter Try.func105, Try.ntmps105
  go_wp2_with fail
  clear F0 F00 F9
  go_loopw [14, 15] (fun vi vj wr => ∃ (i j : Nat), vi = .int .i64 i ∧ vj = .int .i64 j ∧ a ≤ i ∧ i ≤ j ∧ j ≤ m ∧ Hid (∀ q, a ≤ q → q < i → Le (kat xs q) (kat xs m)) ∧ Hid (∀ q, j ≤ q → q < m → Lt (kat xs m) (kat xs q)) ∧ Own base wr (.slice (some ⟨g, 0, none⟩) N cap) xs ∧ Keep [g] w wr) (fun vi vj wr => (intOf vj).toNat - (intOf vi).toNat)
  case atStart => exact ⟨a, m, rfl, rfl, Nat.le_refl _, by omega, Nat.le_refl _, Lib.hid (fun q h1 h2 => by omega), Lib.hid (fun q h1 h2 => by omega), hO, Keep.refl _ _⟩
  case round =>
    clear hO
    obtain ⟨i, j, rfl, rfl, hi, hij, hj, hlo, hhi, hO, hK⟩ := hrel
    by_cases hlt : i < j
    · obtain ⟨h, hh⟩ : ∃ h, h = (i + j) / 2 := ⟨_, rfl⟩
      have B1 : i ≤ h ∧ h < j := by omega
      have E1 : IntKind.i64.wrap ((i : Int) + (j : Int)) = (i : Int) + (j : Int) := IntWalk.i64_in _ (by omega)
      have E2 : ((i : Int) + (j : Int)) / 2 = (h : Int) := by omega
      have E3 : IntKind.i64.wrap ((h : Int) + 1) = ((h + 1 : Nat) : Int) := by rw [IntWalk.i64_in _ (by omega)]; omega
      clear hh
      obtain ⟨c0, c1, -, -⟩ := hO.two h (by have := HN.out; omega)
      obtain ⟨d0, d1, -, -⟩ := hO.two m (by have := HN.out; omega)
      have c0' : wr.drew.cell? ⟨g, h * 2, none⟩ = _ := c0
      have c1' : wr.drew.cell? ⟨g, h * 2 + 1, none⟩ = _ := c1
      have d0' : wr.drew.cell? ⟨g, m * 2, none⟩ = _ := d0
      have d1' : wr.drew.cell? ⟨g, m * 2 + 1, none⟩ = _ := d1
      have B2 : (h : Int) < (N : Int) := by omega
      have B3 : (m : Int) < (N : Int) := by omega
      go_wp2_with fail
      go_still_tail 9, (by kernel_rfl)
      change wpList _ _ _ _ _ wr.drew
      have hOd : Own base wr.drew (.slice (some ⟨g, 0, none⟩) N cap) xs := hO
      have hKd : Keep [g] w wr.drew := hK.trans (Keep.of_below (Below.refl _ wr).drew)
      clear c0 c1 d0 d1 c0' c1' d0' d1' hO hK E1 E2
      generalize wr.drew = wd at *
      go_wp2_with fail
      refine (cmp43 (pat xs m) (pat xs h) _).mono ?_
      rintro e w1 ⟨rfl, hb1⟩
      have hO1 : Own base w1 (.slice (some ⟨g, 0, none⟩) N cap) xs := own_keep hOd (Keep.of_below (X := []) hb1) (by simp)
      have hK1 : Keep [g] w w1 := hKd.trans (Keep.of_below hb1)
      clear hOd hKd hb1
      by_cases hcmp : cmpS (pat xs m).1 (pat xs h).1 < 0
      · have S : Hid (∀ q, h ≤ q → q < m → Lt (kat xs m) (kat xs q)) := Lib.hid (fun q q1 q2 => by
          have h0 : Lt (kat xs m) (kat xs h) := hcmp
          by_cases e : q = h
          · rw [e]; exact h0
          · exact h0.trans_le (HS.out h q (by omega) (by omega) q2))
        have hdec : decide (cmpS (pat xs m).1 (pat xs h).1 < 0) = true := decide_eq_true hcmp
        go_wp2_with fail
        refine ⟨⟨i, h, rfl, rfl, hi, by omega, by omega, hlo, S, hO1, hK1⟩, ?_⟩
        simp [intOf]; omega
      · have hge : 0 ≤ cmpS (pat xs m).1 (pat xs h).1 := by omega
        have S : Hid (∀ q, a ≤ q → q < h + 1 → Le (kat xs q) (kat xs m)) := Lib.hid (fun q q1 q2 => by
          have h0 : Le (kat xs h) (kat xs m) := hge
          by_cases e : q = h
          · rw [e]; exact h0
          · exact (HS.out q h q1 (by omega) (by omega)).trans h0)
        have hdec : decide (cmpS (pat xs m).1 (pat xs h).1 < 0) = false := decide_eq_false hcmp
        clear hcmp hge
        go_wp2_with fail
        refine ⟨⟨h + 1, j, by go_num, rfl, by omega, by omega, hj, S, hhi, hO1, hK1⟩, ?_⟩
        simp [intOf]; omega
    · obtain rfl : i = j := by omega
      go_wp2_with fail
      go_loopw [17] (fun vk wr => ∃ (k : Nat) (zs : List Pr), vk = .int .i64 k ∧ i ≤ k ∧ k ≤ m ∧ Hid (Dn xs zs m k) ∧ Own base wr (.slice (some ⟨g, 0, none⟩) N cap) zs ∧ Keep [g] w wr) (fun vk wr => (intOf vk).toNat)
      case atStart => exact ⟨m, xs, rfl, hj, Nat.le_refl _, Lib.hid (dn_start xs m), hO, hK⟩
      case round =>
        clear hO hK
        obtain ⟨k, zs, rfl, hk, hki, hU, hO, hK⟩ := hrel
        by_cases hlt2 : i < k
        · have hzl : zs.length = N := by have := hU.out.1; rw [HN.out]; exact this
          obtain ⟨kk, hkk⟩ : ∃ kk, k = kk + 1 := ⟨k - 1, by omega⟩
          have F1 : IntKind.i64.wrap ((k : Int) - 1) = (kk : Int) := by rw [IntWalk.i64_in _ (by omega)]; omega
          have F3 : (k : Int) < (N : Int) := by omega
          have F4 : (kk : Int) < (N : Int) := by omega
          obtain ⟨c0, c1, f0, f1⟩ := hO.two k (by omega)
          obtain ⟨d0, d1, e0, e1⟩ := hO.two kk (by omega)
          have hsw := Lib.hid (hO.swap k kk (by omega) (by omega))
          have hKs := Lib.hid (((((hK.trans (Keep.of_below (Below.refl _ wr).drew)).setCell (p := ⟨g, k * 2, none⟩) (by simp) (.string (pat zs kk).1)).setCell (p := ⟨g, k * 2 + 1, none⟩) (by simp) (.string (pat zs kk).2)).setCell (p := ⟨g, kk * 2, none⟩) (by simp) (.string (pat zs k).1)).setCell (p := ⟨g, kk * 2 + 1, none⟩) (by simp) (.string (pat zs k).2))
          have hUs : Hid (Dn xs (sw zs k kk) m kk) := Lib.hid (by
            have hU' := hU.out
            rw [hkk] at hU' ⊢
            exact dn_step hU' (by omega) (by have := HN.out; omega) (hhi.out kk (by omega) (by omega)))
          have n1 : k * 2 ≠ kk * 2 := by omega
          have n2 : k * 2 ≠ kk * 2 + 1 := by omega
          have n3 : k * 2 + 1 ≠ kk * 2 := by omega
          have n4 : k * 2 + 1 ≠ kk * 2 + 1 := by omega
          have n5 := Ne.symm n1
          have n6 := Ne.symm n2
          have n7 := Ne.symm n3
          have n8 := Ne.symm n4
          have bk : i ≤ kk ∧ kk ≤ m ∧ k = kk + 1 := by omega
          have HBK := Lib.hid bk
          clear hO hK hkk bk hzl
          go_wp2_with fail
          go_region
          all_goals
            go_wp2_with fail
            refine ⟨⟨kk, sw zs k kk, rfl, HBK.out.1, HBK.out.2.1, hUs, hsw.out, hKs.out⟩, ?_⟩
            have := HBK.out
            simp [intOf]; omega
        · obtain rfl : k = i := by omega
          go_wp2_with fail
          refine bodyPost_ret (results_none rfl _ _ _) rfl ?_
          have hfin := dn_end hU.out hi hki (by rw [← HN.out]; exact hmN) HS.out hlo.out hhi.out
          rw [HM.out]
          refine ⟨rfl, zs, ?_, hfin.1, hfin.2, hK⟩
          rw [← HN.out]; exact hO
end Go.Proofs.Ytchimfgbdfmegaa
/- The merge of two sorted stretches: the search's plain part, and what follows the search. -/
namespace Go.Proofs.Ytchimfgbdfmegaa
open Go.RowKit Go.Lib
set_option linter.unusedVariables false
set_option maxRecDepth 100000
set_option linter.unusedSimpArgs false

/-- where the search begins and ends -/
structure Bnd (a m b mid s0 r0 : Nat) : Prop where
  h1 : a ≤ s0
  h2 : s0 ≤ r0
  h3 : r0 ≤ m
  h4 : r0 ≤ mid
  h5 : mid + m ≤ b + s0
  h6 : s0 = a ∨ mid + m = b + s0
  h7 : r0 = m ∨ r0 = mid
theorem bnd_of (a m b mid : Nat) (ham : a < m) (hmb : m < b) (hmid : mid = (a + b) / 2) : (mid < m → Bnd a m b mid (mid + m - b) mid) ∧ (m ≤ mid → Bnd a m b mid a m) :=
  ⟨fun h => ⟨by omega, by omega, by omega, by omega, by omega, by omega, by omega⟩, fun h => ⟨by omega, by omega, by omega, by omega, by omega, by omega, by omega⟩⟩
/-- what the search has found -/
structure Fnd (xs : List Pr) (p s0 r0 s r : Nat) : Prop where
  lo : ∀ c, s0 ≤ c → c < s → Le (kat xs c) (kat xs (p - c))
  hi : ∀ c, r ≤ c → c < r0 → Lt (kat xs (p - c)) (kat xs c)
theorem fnd_up {xs : List Pr} {a m b mid s0 r0 s r c p : Nat} (hB : Bnd a m b mid s0 r0) (hp : p + 1 = mid + m) (hmb : m < b) (hs1 : Srt xs a m) (hs2 : Srt xs m b) (h : Fnd xs p s0 r0 s r) (hc : s0 ≤ c ∧ c < r0) (he : Le (kat xs c) (kat xs (p - c))) : Fnd xs p s0 r0 (c + 1) r := by
  obtain ⟨h1, h2, h3, h4, h5, h6, h7⟩ := hB
  refine ⟨fun c' c1 c2 => ?_, h.hi⟩
  by_cases e : c' = c
  · rw [e]; exact he
  · exact ((hs1 c' c (by omega) (by omega) (by omega)).trans he).trans (hs2 (p - c) (p - c') (by omega) (by omega) (by omega))
theorem fnd_dn {xs : List Pr} {a m b mid s0 r0 s r c p : Nat} (hB : Bnd a m b mid s0 r0) (hp : p + 1 = mid + m) (hmb : m < b) (hs1 : Srt xs a m) (hs2 : Srt xs m b) (h : Fnd xs p s0 r0 s r) (hc : s0 ≤ c ∧ c < r0) (he : Lt (kat xs (p - c)) (kat xs c)) : Fnd xs p s0 r0 s c := by
  obtain ⟨h1, h2, h3, h4, h5, h6, h7⟩ := hB
  refine ⟨h.lo, fun c' c1 c2 => ?_⟩
  by_cases e : c' = c
  · rw [e]; exact he
  · exact ((hs2 (p - c') (p - c) (by omega) (by omega) (by omega)).trans_lt he).trans_le (hs1 c c' (by omega) (by omega) (by omega))
theorem fnd_end {xs : List Pr} {a m b mid s0 r0 s p e : Nat} (hB : Bnd a m b mid s0 r0) (hp : p + 1 = mid + m) (ham : a < m) (hmb : m < b) (h : Fnd xs p s0 r0 s s) (hs : s0 ≤ s ∧ s ≤ r0) (he : e + s = mid + m) :
    a ≤ s ∧ s ≤ m ∧ m ≤ e ∧ e ≤ b ∧ s ≤ mid ∧ mid ≤ e ∧ (a < s → e < b → Le (kat xs (s - 1)) (kat xs e)) ∧ (s < m → m < e → Lt (kat xs (e - 1)) (kat xs s)) := by
  obtain ⟨h1, h2, h3, h4, h5, h6, h7⟩ := hB
  refine ⟨by omega, by omega, by omega, by omega, by omega, by omega, fun c1 c2 => ?_, fun c1 c2 => ?_⟩
  · have := h.lo (s - 1) (by omega) (by omega)
    rw [show p - (s - 1) = e by omega] at this
    exact this
  · have := h.hi s (Nat.le_refl _) (by omega)
    rw [show p - s = e - 1 by omega] at this
    exact this

theorem split4 {xs : List Pr} {s m e : Nat} (h1 : s ≤ m) (h2 : m ≤ e) (h3 : e ≤ xs.length) : xs = xs.take s ++ (xs.drop s).take (m - s) ++ (xs.drop m).take (e - m) ++ xs.drop e ∧
    (xs.take s).length = s ∧ ((xs.drop s).take (m - s)).length = m - s ∧ ((xs.drop m).take (e - m)).length = e - m := by
  refine ⟨?_, by rw [List.length_take]; omega, by rw [List.length_take, List.length_drop]; omega, by rw [List.length_take, List.length_drop]; omega⟩
  have a1 : xs.drop s = (xs.drop s).take (m - s) ++ xs.drop m := by
    conv => lhs; rw [← List.take_append_drop (m - s) (xs.drop s)]
    rw [List.drop_drop, show s + (m - s) = m by omega]
  have a2 : xs.drop m = (xs.drop m).take (e - m) ++ xs.drop e := by
    conv => lhs; rw [← List.take_append_drop (e - m) (xs.drop m)]
    rw [List.drop_drop, show m + (e - m) = e by omega]
  conv => lhs; rw [← List.take_append_drop s xs, a1, a2]
  simp only [List.append_assoc]


/-- the code from a region on -/
def startsAt (k : Nat) : Code → Bool
  | .region i _ _ => i == k
  | .seq a _ => startsAt k a
  | _ => false
def fromRegion (k : Nat) : Code → Option Code
  | .seq a b => if startsAt k a then some (.seq a b) else fromRegion k b
  | _ => none
noncomputable def tail38 : Code := (Try.f105.body.bind (fromRegion 38)).getD .skip

noncomputable def tail43 : Code := (Try.f105.body.bind (fromRegion 43)).getD .skip
set_option maxRecDepth 1000000 in
set_option maxHeartbeats 32000000 in
theorem symTail43 (dd base g cap : Nat) (xs zs : List Pr) (a m b mid e N : Nat) (w wc : World)
    (IH : Hid (∀ (base g cap : Nat) (xs : List Pr) (a m b : Nat) (w : World), b - a ≤ dd → Own base w (.slice (some ⟨g, 0, none⟩) xs.length cap) xs → a < m → m < b → b ≤ xs.length → xs.length ≤ 1000 → Srt xs a m → Srt xs m b →
      Calls Try.prog 105 #[.slice (some ⟨g, 0, none⟩) xs.length cap, .int .i64 a, .int .i64 m, .int .i64 b, fn43] w (MergePost base g cap xs a b w)))
    (hdd : b - a ≤ dd + 1) (HN : Hid (N = xs.length)) (hb : b ≤ N) (hn : N ≤ 1000) (hmm : a < mid ∧ mid < b) (hbe : mid ≤ e ∧ e ≤ b) (HZL : Hid (zs.length = N)) (hS2 : Hid (Srt zs a mid)) (hSa : Hid (Srt zs mid e)) (hSb : Hid (Srt zs e b))
    (hsep : Hid (∀ p q, a ≤ p → p < mid → mid ≤ q → q < b → Le (kat zs p) (kat zs q))) (hRe : Hid (Re xs zs a b))
    (hO2 : Own base wc (.slice (some ⟨g, 0, none⟩) N cap) zs) (hK2 : Keep [g] w wc) (x5 x6 x7 x8 x9 x10 x11 x12 x13 x14 x15 x16 x17 x19 x20 x21 x22 x23 x25 x26 x27 x28 x29 x30 x31 x32 x33 x34 x35 x36 x37 x38 x39 x40 x41 x42 x43 x44 x45 x46 x47 x48 x49 x50 x51 x52 x53 x54 x55 x56 x57 x58 x59 x60 x61 x62 x63 x64 x65 x66 x67 x68 x69 x70 x71 x72 x73 x74 x75 x76 x77 x78 x79 x80 x81 x82 x83 x84 x85 x86 x87 x88 x89 x90 x91 x92 x93 x94 x95 x96 x97 x98 x99 x100 x101 x102 x103 x104 x105 x106 x107 x108 x109 x110 x111 x112 x113 x114 x115 x116 x117 x118 x119 x120 x121 x122 x123 x124 x125 x126 x127 x128 x129 x130 x131 x132 x133 x134 x135 x136 x137 x138 x139 x140 x141 x142 x143 x144 x145 x146 x147 x148 x149 x150 x151 x152 x153 x154 x155 x156 x157 x158 x159 x160 x161 x162 x163 x164 x165 x166 x167 x168 x169 x170 x171 x172 x173 x174 x175 x176 x177 x178 x179 x180 x181 x182 x183 x184 x185 x186 x187 x188 x189 x190 x191 x192 x193 x194 x195 x196 x197 x198 x199 x200 x201 x202 x203 x204 x205 x206 x207 x208 x209 x210 x211 x212 x213 x214 x215 x216 x217 x218 x219 : Value) :
    Code.wp Try.prog tail43 (bodyPost Try.prog Try.f105 (MergePost base g cap xs a b w)) ⟨#[.slice (some ⟨g, 0, none⟩) N cap, .int .i64 a, .int .i64 m, .int .i64 b, fn43, x5, x6, x7, x8, x9, x10, x11, x12, x13, x14, x15, x16, x17, .int .i64 mid, x19, x20, x21, x22, x23, .int .i64 e, x25, x26, x27, x28, x29, x30, x31, x32, x33, x34, x35, x36, x37, x38, x39, x40, x41, x42, x43, x44, x45, x46, x47, x48, x49, x50, x51, x52, x53, x54, x55, x56, x57, x58, x59, x60, x61, x62, x63, x64, x65, x66, x67, x68, x69, x70, x71, x72, x73, x74, x75, x76, x77, x78, x79, x80, x81, x82, x83, x84, x85, x86, x87, x88, x89, x90, x91, x92, x93, x94, x95, x96, x97, x98, x99, x100, x101, x102, x103, x104, x105, x106, x107, x108, x109, x110, x111, x112, x113, x114, x115, x116, x117, x118, x119, x120, x121, x122, x123, x124, x125, x126, x127, x128, x129, x130, x131, x132, x133, x134, x135, x136, x137, x138, x139, x140, x141, x142, x143, x144, x145, x146, x147, x148, x149, x150, x151, x152, x153, x154, x155, x156, x157, x158, x159, x160, x161, x162, x163, x164, x165, x166, x167, x168, x169, x170, x171, x172, x173, x174, x175, x176, x177, x178, x179, x180, x181, x182, x183, x184, x185, x186, x187, x188, x189, x190, x191, x192, x193, x194, x195, x196, x197, x198, x199, x200, x201, x202, x203, x204, x205, x206, x207, x208, x209, x210, x211, x212, x213, x214, x215, x216, x217, x218, x219], []⟩ wc := by
  unfold fn43
  simp only []
  conv => arg 2; whnf
  go_upto_region 43 with (fail)
  go_cut [213] (fun v wx => v = .bool (decide (mid < e ∧ e < b)) ∧ wc = wx)
  case first =>
    by_cases k1 : mid < e
    · by_cases k2 : e < b
      · go_wp2_with fail
        go_meet
        exact ⟨by simp [k1, k2], rfl⟩
      · go_wp2_with fail
        go_meet
        exact ⟨by simp [k1, k2], rfl⟩
    · go_wp2_with fail
      go_meet
      exact ⟨by simp [k1], rfl⟩
  case rest =>
    obtain ⟨rfl, rfl⟩ := hcut
    by_cases hc : mid < e ∧ e < b
    · have hdec : decide (mid < e ∧ e < b) = true := decide_eq_true hc
      have hcall := IH.out base g cap zs mid e b wc (by omega) (by rw [HZL.out]; exact hO2) hc.1 hc.2 (by rw [HZL.out]; exact hb) (by rw [HZL.out]; exact hn) hSa.out hSb.out
      rw [HZL.out] at hcall
      have HC := Lib.hid hcall
      clear hcall
      go_wp2_with fail
      refine HC.out.mono ?_
      rintro e' w1 ⟨rfl, zz, hO3, hR3, hS3, hK3⟩
      rw [HZL.out] at hO3
      go_wp2_with fail
      refine bodyPost_end (results_none rfl _ _ _) rfl ?_
      refine ⟨rfl, zz, by rw [← HN.out]; exact hO3, hRe.out.trans (hR3.mono (by omega) (Nat.le_refl _)), ?_, hK2.trans hK3⟩
      exact srt_join (ys := zz) (zs := zz) (by omega) (by omega) (srt_out hR3 hS2.out (.inl (Nat.le_refl _))) hS3 (sep_right hR3 hsep.out)
    · have hdec : decide (mid < e ∧ e < b) = false := decide_eq_false hc
      have hSr : Srt zs mid b := by
        rcases (show e = mid ∨ e = b by omega) with e1 | e1
        · rw [← e1]; exact hSb.out
        · rw [← e1]; exact hSa.out
      have HSr := Lib.hid hSr
      clear hSr
      go_wp2_with fail
      refine bodyPost_end (results_none rfl _ _ _) rfl ?_
      refine ⟨rfl, zs, by rw [← HN.out]; exact hO2, hRe.out, ?_, hK2⟩
      exact srt_join (ys := zs) (zs := zs) (by omega) (by omega) hS2.out HSr.out hsep.out
end Go.Proofs.Ytchimfgbdfmegaa
/- What follows the left half of a merge. -/
namespace Go.Proofs.Ytchimfgbdfmegaa
open Go.RowKit Go.Lib
set_option linter.unusedVariables false
set_option maxRecDepth 100000
set_option linter.unusedSimpArgs false
noncomputable def tail41 : Code := (Try.f105.body.bind (fromRegion 41)).getD .skip
set_option maxRecDepth 1000000 in
set_option maxHeartbeats 32000000 in
theorem symTail41 (dd base g cap : Nat) (xs ys : List Pr) (a m b mid s e N : Nat) (w wc : World)
    (IH : Hid (∀ (base g cap : Nat) (xs : List Pr) (a m b : Nat) (w : World), b - a ≤ dd → Own base w (.slice (some ⟨g, 0, none⟩) xs.length cap) xs → a < m → m < b → b ≤ xs.length → xs.length ≤ 1000 → Srt xs a m → Srt xs m b →
      Calls Try.prog 105 #[.slice (some ⟨g, 0, none⟩) xs.length cap, .int .i64 a, .int .i64 m, .int .i64 b, fn43] w (MergePost base g cap xs a b w)))
    (hdd : b - a ≤ dd + 1) (HN : Hid (N = xs.length)) (hb : b ≤ N) (hn : N ≤ 1000) (hmm : a < mid ∧ mid < b) (bds : a ≤ s ∧ s ≤ m ∧ m ≤ e ∧ e ≤ b ∧ s ≤ mid ∧ mid ≤ e) (HYL : Hid (ys.length = N))
    (HP : Hid (Re xs ys a b ∧ Srt ys a s ∧ Srt ys s mid ∧ Srt ys mid e ∧ Srt ys e b ∧ ∀ p q, a ≤ p → p < mid → mid ≤ q → q < b → Le (kat ys p) (kat ys q)))
    (hO1 : Own base wc (.slice (some ⟨g, 0, none⟩) N cap) ys) (hK1 : Keep [g] w wc) (x5 x6 x7 x8 x9 x10 x11 x12 x13 x14 x15 x16 x17 x19 x21 x22 x23 x25 x26 x27 x28 x29 x30 x31 x32 x33 x34 x35 x36 x37 x38 x39 x40 x41 x42 x43 x44 x45 x46 x47 x48 x49 x50 x51 x52 x53 x54 x55 x56 x57 x58 x59 x60 x61 x62 x63 x64 x65 x66 x67 x68 x69 x70 x71 x72 x73 x74 x75 x76 x77 x78 x79 x80 x81 x82 x83 x84 x85 x86 x87 x88 x89 x90 x91 x92 x93 x94 x95 x96 x97 x98 x99 x100 x101 x102 x103 x104 x105 x106 x107 x108 x109 x110 x111 x112 x113 x114 x115 x116 x117 x118 x119 x120 x121 x122 x123 x124 x125 x126 x127 x128 x129 x130 x131 x132 x133 x134 x135 x136 x137 x138 x139 x140 x141 x142 x143 x144 x145 x146 x147 x148 x149 x150 x151 x152 x153 x154 x155 x156 x157 x158 x159 x160 x161 x162 x163 x164 x165 x166 x167 x168 x169 x170 x171 x172 x173 x174 x175 x176 x177 x178 x179 x180 x181 x182 x183 x184 x185 x186 x187 x188 x189 x190 x191 x192 x193 x194 x195 x196 x197 x198 x199 x200 x201 x202 x203 x204 x205 x206 x207 x208 x209 x210 x211 x212 x213 x214 x215 x216 x217 x218 x219 : Value) :
    Code.wp Try.prog tail41 (bodyPost Try.prog Try.f105 (MergePost base g cap xs a b w)) ⟨#[.slice (some ⟨g, 0, none⟩) N cap, .int .i64 a, .int .i64 m, .int .i64 b, fn43, x5, x6, x7, x8, x9, x10, x11, x12, x13, x14, x15, x16, x17, .int .i64 mid, x19, .int .i64 s, x21, x22, x23, .int .i64 e, x25, x26, x27, x28, x29, x30, x31, x32, x33, x34, x35, x36, x37, x38, x39, x40, x41, x42, x43, x44, x45, x46, x47, x48, x49, x50, x51, x52, x53, x54, x55, x56, x57, x58, x59, x60, x61, x62, x63, x64, x65, x66, x67, x68, x69, x70, x71, x72, x73, x74, x75, x76, x77, x78, x79, x80, x81, x82, x83, x84, x85, x86, x87, x88, x89, x90, x91, x92, x93, x94, x95, x96, x97, x98, x99, x100, x101, x102, x103, x104, x105, x106, x107, x108, x109, x110, x111, x112, x113, x114, x115, x116, x117, x118, x119, x120, x121, x122, x123, x124, x125, x126, x127, x128, x129, x130, x131, x132, x133, x134, x135, x136, x137, x138, x139, x140, x141, x142, x143, x144, x145, x146, x147, x148, x149, x150, x151, x152, x153, x154, x155, x156, x157, x158, x159, x160, x161, x162, x163, x164, x165, x166, x167, x168, x169, x170, x171, x172, x173, x174, x175, x176, x177, x178, x179, x180, x181, x182, x183, x184, x185, x186, x187, x188, x189, x190, x191, x192, x193, x194, x195, x196, x197, x198, x199, x200, x201, x202, x203, x204, x205, x206, x207, x208, x209, x210, x211, x212, x213, x214, x215, x216, x217, x218, x219], []⟩ wc := by
  unfold fn43
  simp only []
  conv => arg 2; whnf
  go_upto_region 41 with (fail)
  go_cut [199] (fun v wx => v = .bool (decide (a < s ∧ s < mid)) ∧ wc = wx)
  case first =>
    by_cases k1 : a < s
    · by_cases k2 : s < mid
      · go_wp2_with fail
        go_meet
        exact ⟨by simp [k1, k2], rfl⟩
      · go_wp2_with fail
        go_meet
        exact ⟨by simp [k1, k2], rfl⟩
    · go_wp2_with fail
      go_meet
      exact ⟨by simp [k1], rfl⟩
  case rest =>
    obtain ⟨rfl, rfl⟩ := hcut
    go_upto_if 199 with (fail)
    go_cut [18] (fun vm wx => vm = .int .i64 mid ∧ ∃ zs, Hid (Re ys zs a mid) ∧ Hid (Srt zs a mid) ∧ Own base wx (.slice (some ⟨g, 0, none⟩) N cap) zs ∧ Keep [g] w wx)
    case first =>
      by_cases hc : a < s ∧ s < mid
      · have hdec : decide (a < s ∧ s < mid) = true := decide_eq_true hc
        have hcall := IH.out base g cap ys a s mid wc (by omega) (by rw [HYL.out]; exact hO1) hc.1 hc.2 (by rw [HYL.out]; omega) (by rw [HYL.out]; exact hn) HP.out.2.1 HP.out.2.2.1
        rw [HYL.out] at hcall
        have HC := Lib.hid hcall
        clear hcall
        go_wp2_with fail
        refine HC.out.mono ?_
        rintro e' w1 ⟨rfl, zs, hO2, hR2, hS2, hK2⟩
        rw [HYL.out] at hO2
        go_wp2_with fail
        go_meet
        exact ⟨rfl, zs, Lib.hid hR2, Lib.hid hS2, hO2, hK1.trans hK2⟩
      · have hdec : decide (a < s ∧ s < mid) = false := decide_eq_false hc
        have hSl : Hid (Srt ys a mid) := Lib.hid (by
          rcases (show s = a ∨ s = mid by omega) with e1 | e1
          · rw [← e1]; exact HP.out.2.2.1
          · rw [← e1]; exact HP.out.2.1)
        go_wp2_with fail
        go_meet
        exact ⟨rfl, ys, Lib.hid (Re.refl _ _ _), hSl, hO1, hK1⟩
    case rest =>
      obtain ⟨rfl, zs, hR2, hS2, hO2, hK2⟩ := hcut
      clear hO1 hK1
      have hzl : zs.length = N := by rw [hR2.out.len]; exact HYL.out
      have HZL := Lib.hid hzl
      have hSa : Hid (Srt zs mid e) := Lib.hid (srt_out hR2.out HP.out.2.2.2.1 (.inr (Nat.le_refl _)))
      have hSb : Hid (Srt zs e b) := Lib.hid (srt_out hR2.out HP.out.2.2.2.2.1 (.inr bds.2.2.2.2.2))
      have hsep : Hid (∀ p q, a ≤ p → p < mid → mid ≤ q → q < b → Le (kat zs p) (kat zs q)) := Lib.hid (sep_left hR2.out HP.out.2.2.2.2.2)
      have hRe : Hid (Re xs zs a b) := Lib.hid (HP.out.1.trans (hR2.out.mono (Nat.le_refl _) (by omega)))
      clear hzl hR2
      have HT := Lib.hid (symTail43 dd base g cap xs zs a m b mid e N w wc IH hdd HN hb hn hmm ⟨bds.2.2.2.2.2, bds.2.2.2.1⟩ HZL hS2 hSa hSb hsep hRe hO2 hK2)
      go_step
      exact HT.out _ _ _ _ _ _ _ _ _ _ _ _ _ _ _ _ _ _ _ _ _ _ _ _ _ _ _ _ _ _ _ _ _ _ _ _ _ _ _ _ _ _ _ _ _ _ _ _ _ _ _ _ _ _ _ _ _ _ _ _ _ _ _ _ _ _ _ _ _ _ _ _ _ _ _ _ _ _ _ _ _ _ _ _ _ _ _ _ _ _ _ _ _ _ _ _ _ _ _ _ _ _ _ _ _ _ _ _ _ _ _ _ _ _ _ _ _ _ _ _ _ _ _ _ _ _ _ _ _ _ _ _ _ _ _ _ _ _ _ _ _ _ _ _ _ _ _ _ _ _ _ _ _ _ _ _ _ _ _ _ _ _ _ _ _ _ _ _ _ _ _ _ _ _ _ _ _ _ _ _ _ _ _ _ _ _ _ _ _ _ _ _ _ _ _ _ _ _ _ _ _ _ _ _ _ _ _ _ _ _ _ _ _
end Go.Proofs.Ytchimfgbdfmegaa
/- What follows the search of a merge. -/
namespace Go.Proofs.Ytchimfgbdfmegaa
open Go.RowKit Go.Lib
set_option linter.unusedVariables false
set_option maxRecDepth 100000
set_option linter.unusedSimpArgs false
set_option maxRecDepth 1000000 in
set_option maxHeartbeats 32000000 in
theorem symTail (dd base g cap : Nat) (xs : List Pr) (a m b mid n s e N : Nat) (w wr : World)
    (IH : Hid (∀ (base g cap : Nat) (xs : List Pr) (a m b : Nat) (w : World), b - a ≤ dd → Own base w (.slice (some ⟨g, 0, none⟩) xs.length cap) xs → a < m → m < b → b ≤ xs.length → xs.length ≤ 1000 → Srt xs a m → Srt xs m b →
      Calls Try.prog 105 #[.slice (some ⟨g, 0, none⟩) xs.length cap, .int .i64 a, .int .i64 m, .int .i64 b, fn43] w (MergePost base g cap xs a b w)))
    (hdd : b - a ≤ dd + 1) (ham : a < m) (hmb : m < b) (HN : Hid (N = xs.length)) (hb : b ≤ N) (hn : N ≤ 1000) (HS1 : Hid (Srt xs a m)) (HS2 : Hid (Srt xs m b)) (hmm : a < mid ∧ mid < b) (E5 : IntKind.i64.wrap ((n : Int) - (s : Int)) = (e : Int))
    (HFE : Hid (a ≤ s ∧ s ≤ m ∧ m ≤ e ∧ e ≤ b ∧ s ≤ mid ∧ mid ≤ e ∧ (a < s → e < b → Le (kat xs (s - 1)) (kat xs e)) ∧ (s < m → m < e → Lt (kat xs (e - 1)) (kat xs s)))) (HES : Hid (e + s = mid + m))
    (hO : Own base wr (.slice (some ⟨g, 0, none⟩) N cap) xs) (hK : Keep [g] w wr) (x5 x6 x7 x8 x9 x10 x11 x12 x13 x14 x15 x16 x17 x21 x22 x23 x24 x25 x26 x27 x28 x29 x30 x31 x32 x33 x34 x35 x36 x37 x38 x39 x40 x41 x42 x43 x44 x45 x46 x47 x48 x49 x50 x51 x52 x53 x54 x55 x56 x57 x58 x59 x60 x61 x62 x63 x64 x65 x66 x67 x68 x69 x70 x71 x72 x73 x74 x75 x76 x77 x78 x79 x80 x81 x82 x83 x84 x85 x86 x87 x88 x89 x90 x91 x92 x93 x94 x95 x96 x97 x98 x99 x100 x101 x102 x103 x104 x105 x106 x107 x108 x109 x110 x111 x112 x113 x114 x115 x116 x117 x118 x119 x120 x121 x122 x123 x124 x125 x126 x127 x128 x129 x130 x131 x132 x133 x134 x135 x136 x137 x138 x139 x140 x141 x142 x143 x144 x145 x146 x147 x148 x149 x150 x151 x152 x153 x154 x155 x156 x157 x158 x159 x160 x161 x162 x163 x164 x165 x166 x167 x168 x169 x170 x171 x172 x173 x174 x175 x176 x177 x178 x179 x180 x181 x182 x183 x184 x185 x186 x187 x188 x189 x190 x191 x192 x193 x194 x195 x196 x197 x198 x199 x200 x201 x202 x203 x204 x205 x206 x207 x208 x209 x210 x211 x212 x213 x214 x215 x216 x217 x218 x219 : Value) :
    Code.wp Try.prog tail38 (bodyPost Try.prog Try.f105 (MergePost base g cap xs a b w)) ⟨#[.slice (some ⟨g, 0, none⟩) N cap, .int .i64 a, .int .i64 m, .int .i64 b, fn43, x5, x6, x7, x8, x9, x10, x11, x12, x13, x14, x15, x16, x17, .int .i64 mid, .int .i64 n, .int .i64 s, x21, x22, x23, x24, x25, x26, x27, x28, x29, x30, x31, x32, x33, x34, x35, x36, x37, x38, x39, x40, x41, x42, x43, x44, x45, x46, x47, x48, x49, x50, x51, x52, x53, x54, x55, x56, x57, x58, x59, x60, x61, x62, x63, x64, x65, x66, x67, x68, x69, x70, x71, x72, x73, x74, x75, x76, x77, x78, x79, x80, x81, x82, x83, x84, x85, x86, x87, x88, x89, x90, x91, x92, x93, x94, x95, x96, x97, x98, x99, x100, x101, x102, x103, x104, x105, x106, x107, x108, x109, x110, x111, x112, x113, x114, x115, x116, x117, x118, x119, x120, x121, x122, x123, x124, x125, x126, x127, x128, x129, x130, x131, x132, x133, x134, x135, x136, x137, x138, x139, x140, x141, x142, x143, x144, x145, x146, x147, x148, x149, x150, x151, x152, x153, x154, x155, x156, x157, x158, x159, x160, x161, x162, x163, x164, x165, x166, x167, x168, x169, x170, x171, x172, x173, x174, x175, x176, x177, x178, x179, x180, x181, x182, x183, x184, x185, x186, x187, x188, x189, x190, x191, x192, x193, x194, x195, x196, x197, x198, x199, x200, x201, x202, x203, x204, x205, x206, x207, x208, x209, x210, x211, x212, x213, x214, x215, x216, x217, x218, x219], []⟩ wr := by
  have bds : a ≤ s ∧ s ≤ m ∧ m ≤ e ∧ e ≤ b ∧ s ≤ mid ∧ mid ≤ e := ⟨HFE.out.1, HFE.out.2.1, HFE.out.2.2.1, HFE.out.2.2.2.1, HFE.out.2.2.2.2.1, HFE.out.2.2.2.2.2.1⟩
  unfold fn43
  simp only []
  conv => arg 2; whnf
  go_upto_region 39 with (fail)
  clear E5
  go_cut [185] (fun v wx => v = .bool (decide (s < m ∧ m < e)) ∧ wr = wx)
  case first =>
    by_cases k1 : s < m
    · by_cases k2 : m < e
      · go_wp2_with fail
        go_meet
        exact ⟨by simp [k1, k2], rfl⟩
      · go_wp2_with fail
        go_meet
        exact ⟨by simp [k1, k2], rfl⟩
    · go_wp2_with fail
      go_meet
      exact ⟨by simp [k1], rfl⟩
  case rest =>
    obtain ⟨rfl, rfl⟩ := hcut
    go_upto_if 185 with (fail)
    go_cut [24] (fun ve wx => ve = .int .i64 e ∧ ∃ ys, Hid (Rt xs ys s m mid e) ∧ Own base wx (.slice (some ⟨g, 0, none⟩) N cap) ys ∧ Keep [g] w wx)
    case first =>
      by_cases hrot : s < m ∧ m < e
      · have hdec : decide (s < m ∧ m < e) = true := decide_eq_true hrot
        have hsp := split4 (xs := xs) (s := s) (m := m) (e := e) (by omega) (by omega) (by have := HN.out; omega)
        have hO' : Own base wr (.slice (some ⟨g, 0, none⟩) N cap) (xs.take s ++ (xs.drop s).take (m - s) ++ (xs.drop m).take (e - m) ++ xs.drop e) := by rw [← hsp.1]; exact hO
        have hRt := Lib.hid (rt_rot (xs := xs) (s := s) (m := m) (mid := mid) (e := e) (by omega) (by omega) (by have := HN.out; omega) (by have := HES.out; omega) (fun p q p1 p2 p3 p4 => by
          have hB := HFE.out.2.2.2.2.2.2.2 (by omega) (by omega)
          have l1 : Le (kat xs q) (kat xs (e - 1)) := by
            by_cases ee : q = e - 1
            · rw [ee]; exact Le.refl _
            · exact HS2.out q (e - 1) p3 (by omega) (by omega)
          have l2 : Le (kat xs s) (kat xs p) := by
            by_cases ee : s = p
            · rw [ee]; exact Le.refl _
            · exact HS1.out s p (by omega) (by omega) p2
          exact (l1.trans_lt hB).trans_le l2))
        have hrt := rotate base g cap (xs.take s) ((xs.drop s).take (m - s)) ((xs.drop m).take (e - m)) (xs.drop e) N wr (by rw [hsp.2.1, hsp.2.2.1, hsp.2.2.2, List.length_drop]; have := HN.out; omega) hn (by rw [hsp.2.2.1]; omega) (by rw [hsp.2.2.2]; omega) hO' fn43 s m e hsp.2.1.symm (by rw [hsp.2.1, hsp.2.2.1]; omega) (by rw [hsp.2.1, hsp.2.2.1, hsp.2.2.2]; omega)
        have HR := Lib.hid hrt
        clear hrt hsp hO' hO
        go_wp2_with fail
        refine HR.out.mono ?_
        rintro e' w1 ⟨rfl, hO1, hK1⟩
        go_wp2_with fail
        go_meet
        exact ⟨rfl, _, hRt, hO1, hK.trans hK1⟩
      · have hdec : decide (s < m ∧ m < e) = false := decide_eq_false hrot
        have hRt := Lib.hid (rt_same xs s m mid e (by omega) (by omega) (by have := HES.out; omega) (by omega))
        go_wp2_with fail
        go_meet
        exact ⟨rfl, xs, hRt, hO, hK⟩
    case rest =>
      obtain ⟨rfl, ys, hRt, hO1, hK1⟩ := hcut
      clear hO hK
      have hparts := rt_parts hRt.out bds.1 bds.2.1 bds.2.2.1 bds.2.2.2.1 (by rw [← HN.out]; exact hb) (by have := HES.out; omega) HS1.out HS2.out HFE.out.2.2.2.2.2.2.1 HFE.out.2.2.2.2.2.2.2
      have hyl : ys.length = N := by rw [HN.out]; exact hRt.out.1
      have HP := Lib.hid hparts
      have HYL := Lib.hid hyl
      clear hparts hyl hRt HFE
      have HT := Lib.hid (symTail41 dd base g cap xs ys a m b mid s e N w wc IH hdd HN hb hn hmm bds HYL HP hO1 hK1)
      go_step
      exact HT.out _ _ _ _ _ _ _ _ _ _ _ _ _ _ _ _ _ _ _ _ _ _ _ _ _ _ _ _ _ _ _ _ _ _ _ _ _ _ _ _ _ _ _ _ _ _ _ _ _ _ _ _ _ _ _ _ _ _ _ _ _ _ _ _ _ _ _ _ _ _ _ _ _ _ _ _ _ _ _ _ _ _ _ _ _ _ _ _ _ _ _ _ _ _ _ _ _ _ _ _ _ _ _ _ _ _ _ _ _ _ _ _ _ _ _ _ _ _ _ _ _ _ _ _ _ _ _ _ _ _ _ _ _ _ _ _ _ _ _ _ _ _ _ _ _ _ _ _ _ _ _ _ _ _ _ _ _ _ _ _ _ _ _ _ _ _ _ _ _ _ _ _ _ _ _ _ _ _ _ _ _ _ _ _ _ _ _ _ _ _ _ _ _ _ _ _ _ _ _ _ _ _ _ _ _ _ _ _ _ _ _ _
end Go.Proofs.Ytchimfgbdfmegaa
/- The merge of two sorted stretches. -/
namespace Go.Proofs.Ytchimfgbdfmegaa
open Go.RowKit Go.Lib
set_option linter.unusedVariables false
set_option maxRecDepth 100000
set_option linter.unusedSimpArgs false

set_option maxRecDepth 100000 in
set_option maxHeartbeats 32000000 in
theorem symMerge (dd : Nat) : ∀ (base g cap : Nat) (xs : List Pr) (a m b : Nat) (w : World), b - a ≤ dd → Own base w (.slice (some ⟨g, 0, none⟩) xs.length cap) xs → a < m → m < b → b ≤ xs.length → xs.length ≤ 1000 → Srt xs a m → Srt xs m b →
    Calls Try.prog 105 #[.slice (some ⟨g, 0, none⟩) xs.length cap, .int .i64 a, .int .i64 m, .int .i64 b, fn43] w (MergePost base g cap xs a b w) := by
  induction dd with
  | zero => intro base g cap xs a m b w hd hO ham hmb; omega
  | succ dd ih =>
    intro base g cap xs a m b w hdd hO ham hmb hb hn hs1 hs2
    by_cases c1 : m = a + 1
    · exact merge1 base g cap xs a m b w hO c1 hmb hb hn hs2
    by_cases c2 : b = m + 1
    · exact merge2 base g cap xs a m b w hO c2 (by omega) hb hn hs1
    obtain ⟨N, hN⟩ : ∃ N, N = xs.length := ⟨_, rfl⟩
    have HN := Lib.hid hN
    rw [← hN] at hO hb hn ⊢
    have IH := Lib.hid ih
    have HS1 := Lib.hid hs1
    have HS2 := Lib.hid hs2
    obtain ⟨d1, hd1⟩ : ∃ d, d = m - a := ⟨_, rfl⟩
    obtain ⟨d2, hd2⟩ : ∃ d, d = b - m := ⟨_, rfl⟩
    obtain ⟨mid, hmid⟩ : ∃ mid, mid = (a + b) / 2 := ⟨_, rfl⟩
    obtain ⟨n, hnn⟩ : ∃ n, n = mid + m := ⟨_, rfl⟩
    obtain ⟨p, hp⟩ : ∃ p, p + 1 = n := ⟨n - 1, by omega⟩
    have HB := Lib.hid (bnd_of a m b mid ham hmb hmid)
    have F0 : IntKind.i64.wrap ((m : Int) - (a : Int)) = (d1 : Int) := by rw [IntWalk.i64_in _ (by omega)]; omega
    have F00 : ((d1 : Int) == 1) = false := by rw [beq_eq_false_iff_ne]; omega
    have F9 : IntKind.i64.wrap ((b : Int) - (m : Int)) = (d2 : Int) := by rw [IntWalk.i64_in _ (by omega)]; omega
    have F99 : ((d2 : Int) == 1) = false := by rw [beq_eq_false_iff_ne]; omega
    have G1 : IntKind.i64.wrap ((a : Int) + (b : Int)) = (a : Int) + (b : Int) := IntWalk.i64_in _ (by omega)
    have G2 : ((a : Int) + (b : Int)) / 2 = (mid : Int) := by omega
    have G3 : IntKind.i64.wrap ((mid : Int) + (m : Int)) = (n : Int) := by rw [IntWalk.i64_in _ (by omega)]; omega
    have G4 : IntKind.i64.wrap ((n : Int) - 1) = (p : Int) := by rw [IntWalk.i64_in _ (by omega)]; omega
    have HM := Lib.hid (show mid = (a + b) / 2 ∧ n = mid + m ∧ p + 1 = n ∧ m ≠ a + 1 ∧ b ≠ m + 1 ∧ a < mid ∧ mid < b from ⟨hmid, hnn, hp, c1, c2, by omega, by omega⟩)
    clear hN ih hs1 hs2 hd1 hd2 hmid hnn hp c1 c2
    unfold fn43
    go_enter Try.func105, Try.ntmps105
    go_upto_if 140 with (fail)
    clear F0 F00 F9 F99 G1 G2 G3
    go_cut [20, 21] (fun vs vr wx => ∃ s0 r0 : Nat, vs = .int .i64 s0 ∧ vr = .int .i64 r0 ∧ Hid (Bnd a m b mid s0 r0) ∧ w = wx)
    case first =>
      by_cases c : mid < m
      · have G5 : IntKind.i64.wrap ((n : Int) - (b : Int)) = ((mid + m - b : Nat) : Int) := by
          have := HM.out
          rw [IntWalk.i64_in _ (by omega)]; omega
        obtain ⟨s0, hs0⟩ : ∃ s0, s0 = mid + m - b := ⟨_, rfl⟩
        rw [← hs0] at G5
        have hBB := Lib.hid (HB.out.1 c)
        rw [← hs0] at hBB
        clear hs0
        go_wp2_with fail
        go_meet
        exact ⟨s0, mid, rfl, rfl, hBB, rfl⟩
      · have hBB := Lib.hid (HB.out.2 (by omega))
        go_wp2_with fail
        go_meet
        exact ⟨a, m, rfl, rfl, hBB, rfl⟩
    case rest =>
      obtain ⟨s0, r0, rfl, rfl, hBn, rfl⟩ := hcut
      clear HB
      have bb : a ≤ s0 ∧ s0 ≤ r0 ∧ r0 ≤ m := ⟨hBn.out.h1, hBn.out.h2, hBn.out.h3⟩
      go_wp2_with fail
      clear G4
      go_loopw [20, 21] (fun vs vr wr => ∃ (s r : Nat), vs = .int .i64 s ∧ vr = .int .i64 r ∧ s0 ≤ s ∧ s ≤ r ∧ r ≤ r0 ∧ Hid (Fnd xs p s0 r0 s r) ∧ Own base wr (.slice (some ⟨g, 0, none⟩) N cap) xs ∧ Keep [g] w wr) (fun vs vr wr => (intOf vr).toNat - (intOf vs).toNat)
      case atStart => exact ⟨s0, r0, rfl, rfl, Nat.le_refl _, bb.2.1, Nat.le_refl _, Lib.hid ⟨fun c h1 h2 => by omega, fun c h1 h2 => by omega⟩, hO, Keep.refl _ _⟩
      case round =>
        clear hO
        obtain ⟨s, r, rfl, rfl, hs0, hsr, hr0, hF, hO, hK⟩ := hrel
        by_cases hlt : s < r
        · obtain ⟨c, hc⟩ : ∃ c, c = (s + r) / 2 := ⟨_, rfl⟩
          have B1 : s ≤ c ∧ c < r := by omega
          obtain ⟨q, hq⟩ : ∃ q, q = p - c := ⟨_, rfl⟩
          have bq : q < N ∧ c < N ∧ q + c = p := by
            have := HM.out
            have h5 := hBn.out.h5
            have h4 := hBn.out.h4
            omega
          have E1 : IntKind.i64.wrap ((s : Int) + (r : Int)) = (s : Int) + (r : Int) := IntWalk.i64_in _ (by omega)
          have E2 : ((s : Int) + (r : Int)) / 2 = (c : Int) := by omega
          have E3 : IntKind.i64.wrap ((c : Int) + 1) = ((c + 1 : Nat) : Int) := by rw [IntWalk.i64_in _ (by omega)]; omega
          have E4 : IntKind.i64.wrap ((p : Int) - (c : Int)) = (q : Int) := by rw [IntWalk.i64_in _ (by omega)]; omega
          have HQ := Lib.hid hq
          have B2 : (c : Int) < (N : Int) := by omega
          have B3 : (q : Int) < (N : Int) := by omega
          obtain ⟨c0, c1, -, -⟩ := hO.two c (by have := HN.out; omega)
          obtain ⟨d0, d1, -, -⟩ := hO.two q (by have := HN.out; omega)
          have c0' : wr.drew.cell? ⟨g, c * 2, none⟩ = _ := c0
          have c1' : wr.drew.cell? ⟨g, c * 2 + 1, none⟩ = _ := c1
          have d0' : wr.drew.cell? ⟨g, q * 2, none⟩ = _ := d0
          have d1' : wr.drew.cell? ⟨g, q * 2 + 1, none⟩ = _ := d1
          clear hc hq bq
          go_wp2_with fail
          go_still_tail 11, (by kernel_rfl)
          change wpList _ _ _ _ _ wr.drew
          have hOd : Own base wr.drew (.slice (some ⟨g, 0, none⟩) N cap) xs := hO
          have hKd : Keep [g] w wr.drew := hK.trans (Keep.of_below (Below.refl _ wr).drew)
          clear c0 c1 d0 d1 c0' c1' d0' d1' hO hK E1 E2 E4
          generalize wr.drew = wd at *
          go_wp2_with fail
          refine (cmp43 (pat xs q) (pat xs c) _).mono ?_
          rintro e w1 ⟨rfl, hb1⟩
          have hO1 : Own base w1 (.slice (some ⟨g, 0, none⟩) N cap) xs := own_keep hOd (Keep.of_below (X := []) hb1) (by simp)
          have hK1 : Keep [g] w w1 := hKd.trans (Keep.of_below hb1)
          clear hOd hKd hb1
          have hpp : p + 1 = mid + m := by have := HM.out; omega
          by_cases hcmp : cmpS (pat xs q).1 (pat xs c).1 < 0
          · have S : Hid (Fnd xs p s0 r0 s c) := Lib.hid (fnd_dn hBn.out hpp hmb HS1.out HS2.out hF.out (by omega) (by rw [← HQ.out]; exact hcmp))
            have hdec : decide (cmpS (pat xs q).1 (pat xs c).1 < 0) = true := decide_eq_true hcmp
            clear hpp
            go_wp2_with fail
            refine ⟨⟨s, c, rfl, rfl, hs0, by omega, by omega, S, hO1, hK1⟩, ?_⟩
            simp [intOf]; omega
          · have S : Hid (Fnd xs p s0 r0 (c + 1) r) := Lib.hid (fnd_up hBn.out hpp hmb HS1.out HS2.out hF.out (by omega) (by rw [← HQ.out]; exact not_lt_le hcmp))
            have hdec : decide (cmpS (pat xs q).1 (pat xs c).1 < 0) = false := decide_eq_false hcmp
            clear hpp hcmp
            go_wp2_with fail
            refine ⟨⟨c + 1, r, by go_num, rfl, by omega, by omega, hr0, S, hO1, hK1⟩, ?_⟩
            simp [intOf]; omega
        · obtain rfl : s = r := by omega
          obtain ⟨e, he⟩ : ∃ e, e = n - s := ⟨_, rfl⟩
          have hbase := HM.out
          have hes : e + s = mid + m := by
            have h4 := hBn.out.h4
            omega
          have hfe := fnd_end hBn.out (by omega) ham hmb hF.out ⟨hs0, hr0⟩ hes
          have E5 : IntKind.i64.wrap ((n : Int) - (s : Int)) = (e : Int) := by rw [IntWalk.i64_in _ (by omega)]; omega
          have HFE := Lib.hid hfe
          have bds : a ≤ s ∧ s ≤ m ∧ m ≤ e ∧ e ≤ b ∧ s ≤ mid ∧ mid ≤ e := ⟨hfe.1, hfe.2.1, hfe.2.2.1, hfe.2.2.2.1, hfe.2.2.2.2.1, hfe.2.2.2.2.2.1⟩
          have HES := Lib.hid hes
          clear hbase hes hfe he hF hBn bb
          have hmm : a < mid ∧ mid < b := ⟨HM.out.2.2.2.2.2.1, HM.out.2.2.2.2.2.2⟩
          have HT := Lib.hid (symTail dd base g cap xs a m b mid n s e N w wr IH (by omega) ham hmb HN hb hn HS1 HS2 hmm E5 HFE HES hO hK)
          repeat (first | exact HT.out _ _ _ _ _ _ _ _ _ _ _ _ _ _ _ _ _ _ _ _ _ _ _ _ _ _ _ _ _ _ _ _ _ _ _ _ _ _ _ _ _ _ _ _ _ _ _ _ _ _ _ _ _ _ _ _ _ _ _ _ _ _ _ _ _ _ _ _ _ _ _ _ _ _ _ _ _ _ _ _ _ _ _ _ _ _ _ _ _ _ _ _ _ _ _ _ _ _ _ _ _ _ _ _ _ _ _ _ _ _ _ _ _ _ _ _ _ _ _ _ _ _ _ _ _ _ _ _ _ _ _ _ _ _ _ _ _ _ _ _ _ _ _ _ _ _ _ _ _ _ _ _ _ _ _ _ _ _ _ _ _ _ _ _ _ _ _ _ _ _ _ _ _ _ _ _ _ _ _ _ _ _ _ _ _ _ _ _ _ _ _ _ _ _ _ _ _ _ _ _ _ _ _ _ _ _ _ _ _ _ _ _ | go_step)
end Go.Proofs.Ytchimfgbdfmegaa
