/- What a merge by rotations does to a list: the plain part. -/
import Derived.Test.YtfipifjlmepooaaPr
namespace Go.Proofs.Ytfipifjlmepooaa
set_option linter.unusedVariables false
set_option linter.unusedSimpArgs false

theorem pat_congr {xs ys : List Pr} {p : Nat} (h : ys[p]? = xs[p]?) : pat ys p = pat xs p := by unfold pat; rw [h]
/-- ys is xs with the stretch from a to b in another order, the pairs of each key in the same one -/
structure Re (xs ys : List Pr) (a b : Nat) : Prop where
  len : ys.length = xs.length
  stab : Stab xs ys
  out : ∀ p, p < a ∨ b ≤ p → ys[p]? = xs[p]?
  win : ∀ p, a ≤ p → p < b → ∃ q, a ≤ q ∧ q < b ∧ pat ys p = pat xs q
theorem Re.refl (xs : List Pr) (a b : Nat) : Re xs xs a b := ⟨rfl, Stab.refl _, fun _ _ => rfl, fun p h1 h2 => ⟨p, h1, h2, rfl⟩⟩
theorem Re.trans {xs ys zs : List Pr} {a b : Nat} (h : Re xs ys a b) (k : Re ys zs a b) : Re xs zs a b :=
  ⟨k.len.trans h.len, h.stab.trans k.stab, fun p hp => (k.out p hp).trans (h.out p hp), fun p h1 h2 => by
    obtain ⟨q, q1, q2, e⟩ := k.win p h1 h2
    obtain ⟨r, r1, r2, e'⟩ := h.win q q1 q2
    exact ⟨r, r1, r2, e.trans e'⟩⟩
theorem Re.mono {xs ys : List Pr} {a b a' b' : Nat} (h : Re xs ys a b) (ha : a' ≤ a) (hb : b ≤ b') : Re xs ys a' b' :=
  ⟨h.len, h.stab, fun p hp => h.out p (by omega), fun p h1 h2 => by
    by_cases hp : a ≤ p ∧ p < b
    · obtain ⟨q, q1, q2, e⟩ := h.win p hp.1 hp.2
      exact ⟨q, by omega, by omega, e⟩
    · exact ⟨p, h1, h2, pat_congr (h.out p (by omega))⟩⟩
/-- of two lists of one length with the same pairs at all places -/
theorem get_of_pat {xs ys : List Pr} (hl : ys.length = xs.length) {p : Nat} (h : pat ys p = pat xs p) : ys[p]? = xs[p]? := by
  by_cases hp : p < xs.length
  · rw [pat_get hp, pat_get (by omega), h]
  · rw [List.getElem?_eq_none (by omega), List.getElem?_eq_none (by omega)]

/-- the pair of place a has come to place k, those between one down -/
def Up (xs zs : List Pr) (a k : Nat) : Prop := zs.length = xs.length ∧ Stab xs zs ∧ ∀ p, pat zs p = if p < a then pat xs p else if p < k then pat xs (p + 1) else if p = k then pat xs a else pat xs p
theorem up_start (xs : List Pr) (a : Nat) : Up xs xs a a := ⟨rfl, Stab.refl _, fun p => by
  by_cases h1 : p < a
  · simp [h1]
  · by_cases h2 : p = a <;> simp [h1, h2]⟩
theorem up_step {xs zs : List Pr} {a k : Nat} (h : Up xs zs a k) (hak : a ≤ k) (hl : k + 1 < xs.length) (hlt : Lt (kat xs (k + 1)) (kat xs a)) : Up xs (sw zs k (k + 1)) a (k + 1) := by
  obtain ⟨h1, h2, h3⟩ := h
  have ek : pat zs k = pat xs a := by rw [h3]; simp; omega
  have ek1 : pat zs (k + 1) = pat xs (k + 1) := by
    rw [h3, if_neg (by omega), if_neg (by omega), if_neg (by omega)]
  have esw : sw zs k (k + 1) = sw zs (k + 1) k := by
    unfold sw
    rw [List.set_comm]
    omega
  refine ⟨by rw [sw_length]; exact h1, h2.trans ?_, fun p => ?_⟩
  · rw [esw]
    refine stab_sw (by omega) ?_
    unfold kat
    rw [ek, ek1]
    exact hlt.ne
  · rw [pat_sw (by omega) (by omega), ek, ek1, h3 p]
    by_cases e1 : p = k + 1
    · subst e1; simp; omega
    · by_cases e2 : p = k
      · subst e2; simp; omega
      · rw [if_neg e1, if_neg e2]
        by_cases e3 : p < a
        · simp [e3]
        · rw [if_neg e3, if_neg e3]
          by_cases e4 : p < k
          · rw [if_pos e4, if_pos (by omega)]
          · rw [if_neg e4, if_neg e2, if_neg (by omega), if_neg e1]
theorem up_end {xs zs : List Pr} {a b i : Nat} (h : Up xs zs a (i - 1)) (hai : a < i) (hib : i ≤ b) (hb : b ≤ xs.length) (hs : Srt xs (a + 1) b) (hlo : ∀ q, a < q → q < i → Lt (kat xs q) (kat xs a)) (hhi : ∀ q, i ≤ q → q < b → Le (kat xs a) (kat xs q)) :
    Re xs zs a b ∧ Srt zs a b := by
  obtain ⟨h1, h2, h3⟩ := h
  have hk : ∀ p, kat zs p = if p < a then kat xs p else if p < i - 1 then kat xs (p + 1) else if p = i - 1 then kat xs a else kat xs p := fun p => by
    unfold kat; rw [h3 p]; split
    · rfl
    · split
      · rfl
      · split <;> rfl
  refine ⟨⟨h1, h2, fun p hp => get_of_pat h1 ?_, fun p p1 p2 => ?_⟩, fun p q p1 p2 p3 => ?_⟩
  · rw [h3 p]
    by_cases e : p < a
    · simp [e]
    · rw [if_neg e, if_neg (by omega), if_neg (by omega)]
  · by_cases e1 : p < i - 1
    · exact ⟨p + 1, by omega, by omega, by rw [h3 p, if_neg (by omega), if_pos e1]⟩
    · by_cases e2 : p = i - 1
      · exact ⟨a, by omega, by omega, by rw [h3 p, if_neg (by omega), if_neg e1, if_pos e2]⟩
      · exact ⟨p, by omega, by omega, by rw [h3 p, if_neg (by omega), if_neg e1, if_neg e2]⟩
  · have z1 : ∀ p, a ≤ p → p < i - 1 → kat zs p = kat xs (p + 1) := fun p h h' => by rw [hk p, if_neg (by omega), if_pos h']
    have z2 : ∀ p, p = i - 1 → kat zs p = kat xs a := fun p h => by rw [hk p, if_neg (by omega), if_neg (by omega), if_pos h]
    have z3 : ∀ p, i - 1 < p → kat zs p = kat xs p := fun p h => by rw [hk p, if_neg (by omega), if_neg (by omega), if_neg (by omega)]
    by_cases e1 : p < i - 1
    · rw [z1 p p1 e1]
      by_cases f1 : q < i - 1
      · rw [z1 q (by omega) f1]; exact hs (p + 1) (q + 1) (by omega) (by omega) (by omega)
      · by_cases f2 : q = i - 1
        · rw [z2 q f2]; exact (hlo (p + 1) (by omega) (by omega)).le
        · rw [z3 q (by omega)]; exact hs (p + 1) q (by omega) (by omega) p3
    · by_cases e2 : p = i - 1
      · rw [z2 p e2, z3 q (by omega)]
        exact hhi q (by omega) p3
      · rw [z3 p (by omega), z3 q (by omega)]
        exact hs p q (by omega) p2 p3

/-- the pair of place m has come down to place k -/
def Dn (xs zs : List Pr) (m k : Nat) : Prop := zs.length = xs.length ∧ Stab xs zs ∧ ∀ p, pat zs p = if p = k then pat xs m else if k < p ∧ p ≤ m then pat xs (p - 1) else pat xs p
theorem dn_start (xs : List Pr) (m : Nat) : Dn xs xs m m := ⟨rfl, Stab.refl _, fun p => by
  by_cases h : p = m
  · simp [h]
  · rw [if_neg h, if_neg (by omega)]⟩
theorem dn_step {xs zs : List Pr} {m k : Nat} (h : Dn xs zs m (k + 1)) (hkm : k + 1 ≤ m) (hl : m < xs.length) (hlt : Lt (kat xs m) (kat xs k)) : Dn xs (sw zs (k + 1) k) m k := by
  obtain ⟨h1, h2, h3⟩ := h
  have ek1 : pat zs (k + 1) = pat xs m := by rw [h3]; simp
  have ek : pat zs k = pat xs k := by rw [h3, if_neg (by omega), if_neg (by omega)]
  refine ⟨by rw [sw_length]; exact h1, h2.trans (stab_sw (by omega) ?_), fun p => ?_⟩
  · unfold kat
    rw [ek, ek1]
    exact hlt.ne
  · rw [pat_sw (by omega) (by omega), ek, ek1, h3 p]
    by_cases e1 : p = k
    · subst e1; simp
    · by_cases e2 : p = k + 1
      · subst e2
        rw [if_neg e1, if_pos rfl, if_neg e1, if_pos (by omega)]
        rfl
      · rw [if_neg e1, if_neg e2, if_neg e2, if_neg e1]
        by_cases e3 : k + 1 < p ∧ p ≤ m
        · rw [if_pos e3, if_pos (by omega)]
        · rw [if_neg e3, if_neg (by omega)]
theorem dn_end {xs zs : List Pr} {a m i : Nat} (h : Dn xs zs m i) (hai : a ≤ i) (him : i ≤ m) (hb : m < xs.length) (hs : Srt xs a m) (hlo : ∀ q, a ≤ q → q < i → Le (kat xs q) (kat xs m)) (hhi : ∀ q, i ≤ q → q < m → Lt (kat xs m) (kat xs q)) :
    Re xs zs a (m + 1) ∧ Srt zs a (m + 1) := by
  obtain ⟨h1, h2, h3⟩ := h
  have hk : ∀ p, kat zs p = if p = i then kat xs m else if i < p ∧ p ≤ m then kat xs (p - 1) else kat xs p := fun p => by
    unfold kat; rw [h3 p]; split
    · rfl
    · split <;> rfl
  refine ⟨⟨h1, h2, fun p hp => get_of_pat h1 ?_, fun p p1 p2 => ?_⟩, fun p q p1 p2 p3 => ?_⟩
  · rw [h3 p, if_neg (by omega), if_neg (by omega)]
  · by_cases e1 : p = i
    · exact ⟨m, by omega, by omega, by rw [h3 p, if_pos e1]⟩
    · by_cases e2 : i < p ∧ p ≤ m
      · exact ⟨p - 1, by omega, by omega, by rw [h3 p, if_neg e1, if_pos e2]⟩
      · exact ⟨p, by omega, by omega, by rw [h3 p, if_neg e1, if_neg e2]⟩
  · rw [hk p, hk q]
    by_cases e1 : p = i
    · rw [if_pos e1, if_neg (by omega), if_pos (by omega)]
      exact (hhi (q - 1) (by omega) (by omega)).le
    · rw [if_neg e1]
      by_cases e2 : i < p ∧ p ≤ m
      · rw [if_pos e2, if_neg (by omega), if_pos (by omega)]
        exact hs (p - 1) (q - 1) (by omega) (by omega) (by omega)
      · rw [if_neg e2]
        by_cases f1 : q = i
        · rw [if_pos f1]; exact hlo p p1 (by omega)
        · rw [if_neg f1]
          by_cases f2 : i < q ∧ q ≤ m
          · rw [if_pos f2]
            by_cases g : p = q - 1
            · rw [g]; exact Le.refl _
            · exact hs p (q - 1) p1 (by omega) (by omega)
          · rw [if_neg f2]; exact hs p q p1 p2 (by omega)

/-- the stretches from s to m and from m to e have changed places; mid is where they now meet -/
def Rt (xs zs : List Pr) (s m mid e : Nat) : Prop := zs.length = xs.length ∧ Stab xs zs ∧ ∀ p, pat zs p = if p < s then pat xs p else if p < mid then pat xs (p + (m - s)) else if p < e then pat xs (p - (mid - s)) else pat xs p
theorem rt_same (xs : List Pr) (s m mid e : Nat) (h : s ≤ m) (hme : m ≤ e) (hmid : mid + m = s + e) (h0 : s = m ∨ m = e) : Rt xs xs s m mid e := ⟨rfl, Stab.refl _, fun p => by
  by_cases h1 : p < s
  · simp [h1]
  · rw [if_neg h1]
    by_cases h2 : p < mid
    · rw [if_pos h2]; congr 1; omega
    · rw [if_neg h2]
      by_cases h3 : p < e
      · rw [if_pos h3]; congr 1; omega
      · rw [if_neg h3]⟩
theorem pat4 (A V U R : List Pr) (p : Nat) : pat (A ++ V ++ U ++ R) p = if p < A.length then pat A p else if p < A.length + V.length then pat V (p - A.length) else if p < A.length + V.length + U.length then pat U (p - A.length - V.length) else pat R (p - A.length - V.length - U.length) := by
  unfold pat
  by_cases c1 : p < A.length
  · rw [if_pos c1, List.getElem?_append_left (by simp; omega), List.getElem?_append_left (by simp; omega), List.getElem?_append_left c1]
  · rw [if_neg c1]
    by_cases c2 : p < A.length + V.length
    · rw [if_pos c2, List.getElem?_append_left (by simp; omega), List.getElem?_append_left (by simp; omega), List.getElem?_append_right (by omega)]
    · rw [if_neg c2]
      by_cases c3 : p < A.length + V.length + U.length
      · rw [if_pos c3, List.getElem?_append_left (by simp; omega), List.getElem?_append_right (by simp; omega), List.length_append, Nat.sub_sub]
      · rw [if_neg c3, List.getElem?_append_right (by simp; omega), List.length_append, List.length_append, Nat.sub_sub, Nat.sub_sub, Nat.add_assoc]
theorem rt_rot {xs : List Pr} {s m mid e : Nat} (h1 : s ≤ m) (h2 : m ≤ e) (h3 : e ≤ xs.length) (hmid : mid + m = s + e) (hd : ∀ p q, s ≤ p → p < m → m ≤ q → q < e → Lt (kat xs q) (kat xs p)) :
    Rt xs (xs.take s ++ (xs.drop m).take (e - m) ++ (xs.drop s).take (m - s) ++ xs.drop e) s m mid e := by
  have e1 : xs = xs.take s ++ (xs.drop s).take (m - s) ++ (xs.drop m).take (e - m) ++ xs.drop e := by
    have a1 : xs.drop s = (xs.drop s).take (m - s) ++ xs.drop m := by
      conv => lhs; rw [← List.take_append_drop (m - s) (xs.drop s)]
      rw [List.drop_drop, show s + (m - s) = m by omega]
    have a2 : xs.drop m = (xs.drop m).take (e - m) ++ xs.drop e := by
      conv => lhs; rw [← List.take_append_drop (e - m) (xs.drop m)]
      rw [List.drop_drop, show m + (e - m) = e by omega]
    conv => lhs; rw [← List.take_append_drop s xs, a1, a2]
    simp only [List.append_assoc]
  have l1 : (xs.take s).length = s := by rw [List.length_take]; omega
  have l2 : ((xs.drop s).take (m - s)).length = m - s := by rw [List.length_take, List.length_drop]; omega
  have l3 : ((xs.drop m).take (e - m)).length = e - m := by rw [List.length_take, List.length_drop]; omega
  refine ⟨?_, ?_, fun p => ?_⟩
  · simp only [List.length_append, l1, l2, l3, List.length_drop]; omega
  · have := stab_rot (xs.take s) ((xs.drop s).take (m - s)) ((xs.drop m).take (e - m)) (xs.drop e) (by
      intro x hx y hy
      obtain ⟨i, hi, rfl⟩ := List.getElem_of_mem hx
      obtain ⟨j, hj, rfl⟩ := List.getElem_of_mem hy
      rw [l2] at hi
      rw [l3] at hj
      have := (hd (s + i) (m + j) (by omega) (by omega) (by omega) (by omega)).ne
      unfold kat pat at this
      rw [List.getElem?_eq_getElem (by omega : s + i < xs.length), List.getElem?_eq_getElem (by omega : m + j < xs.length)] at this
      simp at this ⊢
      exact fun h => this h.symm)
    rw [← e1] at this
    exact this
  · have hA : ∀ p, p < s → pat (xs.take s) p = pat xs p := fun p h => by unfold pat; rw [List.getElem?_take, if_pos h]
    have hV : ∀ i, i < e - m → pat ((xs.drop m).take (e - m)) i = pat xs (m + i) := fun i h => by unfold pat; rw [List.getElem?_take, if_pos h, List.getElem?_drop]
    have hU : ∀ i, i < m - s → pat ((xs.drop s).take (m - s)) i = pat xs (s + i) := fun i h => by unfold pat; rw [List.getElem?_take, if_pos h, List.getElem?_drop]
    have hR : ∀ i, pat (xs.drop e) i = pat xs (e + i) := fun i => by unfold pat; rw [List.getElem?_drop]
    rw [pat4, l1, l2, l3]
    by_cases c1 : p < s
    · rw [if_pos c1, if_pos c1, hA p c1]
    · rw [if_neg c1, if_neg c1]
      by_cases c2 : p < mid
      · rw [if_pos c2, if_pos (by omega), hV _ (by omega)]
        congr 1; omega
      · rw [if_neg c2, if_neg (by omega)]
        by_cases c3 : p < e
        · rw [if_pos c3, if_pos (by omega), hU _ (by omega)]
          congr 1; omega
        · rw [if_neg c3, if_neg (by omega), hR]
          congr 1; omega
/-- what holds behind the exchange: four sorted stretches, and none of the left half is greater than one of the right -/
theorem rt_parts {xs zs : List Pr} {a s m mid e b : Nat} (h : Rt xs zs s m mid e) (h1 : a ≤ s) (h2 : s ≤ m) (h3 : m ≤ e) (h4 : e ≤ b) (h5 : b ≤ xs.length) (hmid : mid + m = s + e) (hs1 : Srt xs a m) (hs2 : Srt xs m b)
    (hA : a < s → e < b → Le (kat xs (s - 1)) (kat xs e)) (hB : s < m → m < e → Lt (kat xs (e - 1)) (kat xs s)) :
    Re xs zs a b ∧ Srt zs a s ∧ Srt zs s mid ∧ Srt zs mid e ∧ Srt zs e b ∧ ∀ p q, a ≤ p → p < mid → mid ≤ q → q < b → Le (kat zs p) (kat zs q) := by
  obtain ⟨g1, g2, g3⟩ := h
  have hk : ∀ p, kat zs p = if p < s then kat xs p else if p < mid then kat xs (p + (m - s)) else if p < e then kat xs (p - (mid - s)) else kat xs p := fun p => by
    unfold kat; rw [g3 p]; split
    · rfl
    · split
      · rfl
      · split <;> rfl
  have z0 : ∀ p, p < s → kat zs p = kat xs p := fun p h => by rw [hk p, if_pos h]
  have z1 : ∀ p, s ≤ p → p < mid → kat zs p = kat xs (p + (m - s)) := fun p h h' => by rw [hk p, if_neg (by omega), if_pos h']
  have z2 : ∀ p, mid ≤ p → p < e → kat zs p = kat xs (p - (mid - s)) := fun p h h' => by rw [hk p, if_neg (by omega), if_neg (by omega), if_pos h']
  have z3 : ∀ p, e ≤ p → kat zs p = kat xs p := fun p h => by rw [hk p, if_neg (by omega), if_neg (by omega), if_neg (by omega)]
  have leS : ∀ p q, a ≤ p → p ≤ q → q < m → Le (kat xs p) (kat xs q) := fun p q p1 p2 p3 => by
    by_cases e : p = q
    · rw [e]; exact Le.refl _
    · exact hs1 p q p1 (by omega) p3
  have leM : ∀ p q, m ≤ p → p ≤ q → q < b → Le (kat xs p) (kat xs q) := fun p q p1 p2 p3 => by
    by_cases e : p = q
    · rw [e]; exact Le.refl _
    · exact hs2 p q p1 (by omega) p3
  refine ⟨⟨g1, g2, fun p hp => get_of_pat g1 ?_, fun p p1 p2 => ?_⟩, fun p q p1 p2 p3 => ?_, fun p q p1 p2 p3 => ?_, fun p q p1 p2 p3 => ?_, fun p q p1 p2 p3 => ?_, fun p q p1 p2 p3 p4 => ?_⟩
  · rw [g3 p]
    by_cases e0 : p < s
    · simp [e0]
    · rw [if_neg e0, if_neg (by omega), if_neg (by omega)]
  · by_cases e1 : p < s
    · exact ⟨p, p1, p2, by rw [g3 p, if_pos e1]⟩
    · by_cases e2 : p < mid
      · exact ⟨p + (m - s), by omega, by omega, by rw [g3 p, if_neg e1, if_pos e2]⟩
      · by_cases e3 : p < e
        · exact ⟨p - (mid - s), by omega, by omega, by rw [g3 p, if_neg e1, if_neg e2, if_pos e3]⟩
        · exact ⟨p, p1, p2, by rw [g3 p, if_neg e1, if_neg e2, if_neg e3]⟩
  · rw [z0 p (by omega), z0 q (by omega)]; exact hs1 p q p1 p2 (by omega)
  · rw [z1 p p1 (by omega), z1 q (by omega) p3]
    exact hs2 _ _ (by omega) (by omega) (by omega)
  · rw [z2 p p1 (by omega), z2 q (by omega) p3]
    exact hs1 _ _ (by omega) (by omega) (by omega)
  · rw [z3 p p1, z3 q (by omega)]
    exact hs2 _ _ (by omega) p2 p3
  · by_cases e1 : p < s
    · rw [z0 p e1]
      by_cases f : q < e
      · rw [z2 q p3 f]; exact leS _ _ p1 (by omega) (by omega)
      · rw [z3 q (by omega)]
        exact ((leS p (s - 1) p1 (by omega) (by omega)).trans (hA (by omega) (by omega))).trans (leM e q (by omega) (by omega) p4)
    · rw [z1 p (by omega) p2]
      by_cases f : q < e
      · rw [z2 q p3 f]
        exact ((leM (p + (m - s)) (e - 1) (by omega) (by omega) (by omega)).trans (hB (by omega) (by omega)).le).trans (leS s (q - (mid - s)) (by omega) (by omega) (by omega))
      · rw [z3 q (by omega)]; exact leM _ _ (by omega) (by omega) p4
/-- both halves sorted, none of the left greater than one of the right -/
theorem srt_join {ys zs : List Pr} {a mid b : Nat} (h1 : a ≤ mid) (h2 : mid ≤ b) (hs1 : Srt ys a mid) (hs2 : Srt ys mid b) (hsep : ∀ p q, a ≤ p → p < mid → mid ≤ q → q < b → Le (kat ys p) (kat ys q)) : Srt ys a b := fun p q p1 p2 p3 => by
  by_cases e1 : q < mid
  · exact hs1 p q p1 p2 e1
  · by_cases e2 : p < mid
    · exact hsep p q p1 e2 (by omega) p3
    · exact hs2 p q (by omega) p2 p3
theorem sep_left {xs ys : List Pr} {a mid b : Nat} (h : Re xs ys a mid) (hsep : ∀ p q, a ≤ p → p < mid → mid ≤ q → q < b → Le (kat xs p) (kat xs q)) : ∀ p q, a ≤ p → p < mid → mid ≤ q → q < b → Le (kat ys p) (kat ys q) := fun p q p1 p2 p3 p4 => by
  obtain ⟨r, r1, r2, e⟩ := h.win p p1 p2
  have eq : kat ys q = kat xs q := by unfold kat; rw [pat_congr (h.out q (.inr p3))]
  have ep : kat ys p = kat xs r := by unfold kat; rw [e]
  rw [ep, eq]; exact hsep r q r1 r2 p3 p4
theorem sep_right {xs ys : List Pr} {a mid b : Nat} (h : Re xs ys mid b) (hsep : ∀ p q, a ≤ p → p < mid → mid ≤ q → q < b → Le (kat xs p) (kat xs q)) : ∀ p q, a ≤ p → p < mid → mid ≤ q → q < b → Le (kat ys p) (kat ys q) := fun p q p1 p2 p3 p4 => by
  obtain ⟨r, r1, r2, e⟩ := h.win q p3 p4
  have ep : kat ys p = kat xs p := by unfold kat; rw [pat_congr (h.out p (.inl p2))]
  have eq : kat ys q = kat xs r := by unfold kat; rw [e]
  rw [ep, eq]; exact hsep p r p1 p2 r1 r2
theorem srt_out {xs ys : List Pr} {a b c d : Nat} (h : Re xs ys a b) (hs : Srt xs c d) (hd : d ≤ a ∨ b ≤ c) : Srt ys c d := fun p q p1 p2 p3 => by
  have ep : kat ys p = kat xs p := by unfold kat; rw [pat_congr (h.out p (by omega))]
  have eq : kat ys q = kat xs q := by unfold kat; rw [pat_congr (h.out q (by omega))]
  rw [ep, eq]; exact hs p q p1 p2 p3
end Go.Proofs.Ytfipifjlmepooaa
