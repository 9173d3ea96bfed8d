/- Radix trees: plain mathematics. -/
namespace Go.Proofs.Ytimhdegdmdilaaa
set_option linter.unusedVariables false
set_option maxRecDepth 100000
set_option linter.unusedSimpArgs false
set_option linter.unnecessarySimpa false
/-- a node: its label, its value, its kids -/
inductive RX where
  | node (lab : List UInt8) (val : Option ByteArray) (kids : List RX)
def RX.lab : RX → List UInt8 | .node l _ _ => l
def RX.val : RX → Option ByteArray | .node _ v _ => v
def RX.kids : RX → List RX | .node _ _ ks => ks
theorem RX.eta (t : RX) : t = .node t.lab t.val t.kids := by cases t; rfl
abbrev Ent := List UInt8 × ByteArray
-- what is below a node: keys go on from its label
mutual
def body : RX → List Ent
  | .node _ v ks => (match v with | none => [] | some w => [([], w)]) ++ bodyL ks
def bodyL : List RX → List Ent
  | [] => []
  | k :: ks => (body k).map (fun x => (k.lab ++ x.1, x.2)) ++ bodyL ks
end
theorem bodyL_mem {ks : List RX} {x : Ent} : x ∈ bodyL ks ↔ ∃ k ∈ ks, ∃ y, (y, x.2) ∈ body k ∧ x.1 = k.lab ++ y := by
  induction ks with
  | nil => simp [bodyL]
  | cons k ks ih =>
    rw [bodyL, List.mem_append, ih, List.mem_map]
    constructor
    · rintro (⟨y, hy, rfl⟩ | ⟨k', hk', y, hy, e⟩)
      · exact ⟨k, by simp, y.1, hy, rfl⟩
      · exact ⟨k', by simp [hk'], y, hy, e⟩
    · rintro ⟨k', hk', y, hy, e⟩
      rcases List.mem_cons.1 hk' with rfl | hk'
      · exact .inl ⟨(y, x.2), hy, by rw [← e]⟩
      · exact .inr ⟨k', hk', y, hy, e⟩
theorem body_mem {t : RX} {x : Ent} : x ∈ body t ↔ (x.1 = [] ∧ t.val = some x.2) ∨ ∃ k ∈ t.kids, ∃ y, (y, x.2) ∈ body k ∧ x.1 = k.lab ++ y := by
  cases t with
  | node l v ks =>
    have hb : body (.node l v ks) = (match v with | none => [] | some w => [([], w)]) ++ bodyL ks := by rw [body.eq_def]
    rw [hb, List.mem_append, bodyL_mem]
    refine or_congr ?_ Iff.rfl
    cases v with
    | none => simp [RX.val]
    | some w =>
      simp only [List.mem_singleton, RX.val, Option.some.injEq]
      constructor
      · rintro rfl; exact ⟨rfl, rfl⟩
      · rintro ⟨h1, h2⟩; exact Prod.ext h1 h2.symm
/-- the byte with which a label begins -/
def fst? (t : RX) : Nat := match t.lab with | [] => 0 | b :: _ => b.toNat + 1
theorem fst_cons {t : RX} {b : UInt8} {r : List UInt8} (h : t.lab = b :: r) : fst? t = b.toNat + 1 := by unfold fst?; rw [h]
/-- a kid that may stand there -/
def Kd (t : RX) : Prop := t.lab ≠ [] ∧ (t.val.isSome = true ∨ 2 ≤ t.kids.length)
/-- canonical below -/
inductive Can : RX → Prop
  | mk {l : List UInt8} {v : Option ByteArray} {ks : List RX} : (∀ k ∈ ks, Can k) → (∀ k ∈ ks, Kd k) → ks.Pairwise (fun a b => fst? a < fst? b) → Can (.node l v ks)
theorem Can.kids {t : RX} (h : Can t) : ∀ k ∈ t.kids, Can k := by cases h with | mk a b c => exact a
theorem Can.kd {t : RX} (h : Can t) : ∀ k ∈ t.kids, Kd k := by cases h with | mk a b c => exact b
theorem Can.rises {t : RX} (h : Can t) : t.kids.Pairwise (fun a b => fst? a < fst? b) := by cases h with | mk a b c => exact c
theorem Can.of {t : RX} (a : ∀ k ∈ t.kids, Can k) (b : ∀ k ∈ t.kids, Kd k) (c : t.kids.Pairwise (fun a b => fst? a < fst? b)) : Can t := by
  cases t with
  | node l v ks => exact .mk a b c
theorem RX.ind {Q : RX → Prop} (h : ∀ t, (∀ k ∈ t.kids, Q k) → Q t) : ∀ t, Q t
  | .node l v ks => h _ fun k hk => RX.ind h k
termination_by t => sizeOf t
decreasing_by
  have := List.sizeOf_lt_of_mem hk
  simp_wf
  simp only [RX.kids] at *
  omega
/-- something is there -/
theorem body_some : ∀ t : RX, Can t → (t.val.isSome = true ∨ 1 ≤ t.kids.length) → ∃ x, x ∈ body t := by
  intro t
  induction t using RX.ind with
  | h t ih =>
    intro hc h
    cases hv : t.val with
    | some w => exact ⟨([], w), body_mem.2 (.inl ⟨rfl, hv⟩)⟩
    | none =>
      rw [hv] at h
      simp at h
      match hk : t.kids, h with
      | k :: ks, _ =>
        have hm : k ∈ t.kids := by rw [hk]; simp
        obtain ⟨x, hx⟩ := ih k hm (hc.kids k hm) (by rcases (hc.kd k hm).2 with h | h; exact .inl h; exact .inr (by omega))
        exact ⟨(k.lab ++ x.1, x.2), body_mem.2 (.inr ⟨k, hm, x.1, hx, rfl⟩)⟩
theorem rises_inj : ∀ {ks : List RX}, ks.Pairwise (fun a b => fst? a < fst? b) → ∀ {a b : RX}, a ∈ ks → b ∈ ks → fst? a = fst? b → a = b
  | [], _, a, b, ha, _, _ => by simp at ha
  | k :: ks, h, a, b, ha, hb, e => by
    rw [List.pairwise_cons] at h
    rcases List.mem_cons.1 ha with ha | ha <;> rcases List.mem_cons.1 hb with hb | hb
    · rw [ha, hb]
    · have := h.1 b hb; rw [← ha] at this; omega
    · have := h.1 a ha; rw [← hb] at this; omega
    · exact rises_inj h.2 ha hb e
theorem RX.ext {k v : RX} (h1 : k.lab = v.lab) (h2 : k.val = v.val) (h3 : k.kids = v.kids) : k = v := by
  cases k; cases v
  simp only [RX.lab, RX.val, RX.kids] at *
  rw [h1, h2, h3]
/-- two rising rows with the same members are the same -/
theorem rises_same : ∀ {as bs : List RX}, as.Pairwise (fun a b => fst? a < fst? b) → bs.Pairwise (fun a b => fst? a < fst? b) → (∀ k ∈ as, k ∈ bs) → (∀ k ∈ bs, k ∈ as) → as = bs
  | [], [], _, _, _, _ => rfl
  | [], b :: bs, _, _, _, h => by simpa using h b (by simp)
  | a :: as, [], _, _, h, _ => by simpa using h a (by simp)
  | a :: as, b :: bs, ha, hb, h1, h2 => by
    rw [List.pairwise_cons] at ha hb
    have hab : a = b := by
      rcases List.mem_cons.1 (h1 a (by simp)) with e | e
      · exact e
      · rcases List.mem_cons.1 (h2 b (by simp)) with e' | e'
        · exact e'.symm
        · have := hb.1 a e
          have := ha.1 b e'
          omega
    subst hab
    have := rises_same ha.2 hb.2 (fun k hk => by
      rcases List.mem_cons.1 (h1 k (by simp [hk])) with e | e
      · rw [e] at hk
        have := ha.1 a hk
        omega
      · exact e) (fun k hk => by
      rcases List.mem_cons.1 (h2 k (by simp [hk])) with e | e
      · rw [e] at hk
        have := hb.1 a hk
        omega
      · exact e)
    rw [this]
/-- a kid does not go on in one way only -/
theorem Kd.forks {t : RX} (hc : Can t) (hk : Kd t) (b : UInt8) : ∃ x ∈ body t, ∀ r, x.1 ≠ b :: r := by
  rcases hk.2 with h | h
  · obtain ⟨w, hw⟩ := Option.isSome_iff_exists.1 h
    exact ⟨([], w), body_mem.2 (.inl ⟨rfl, hw⟩), fun r e => by cases e⟩
  · match hks : t.kids, h with
    | k :: k' :: ks, _ =>
      have h1 : k ∈ t.kids := by rw [hks]; simp
      have h2 : k' ∈ t.kids := by rw [hks]; simp
      have hr := hc.rises
      rw [hks, List.pairwise_cons] at hr
      have hlt := hr.1 k' (by simp)
      have key : ∀ u ∈ t.kids, fst? u ≠ b.toNat + 1 → ∃ x ∈ body t, ∀ r, x.1 ≠ b :: r := fun u hu hne => by
        have hku := hc.kd u hu
        obtain ⟨x, hx⟩ := body_some u (hc.kids u hu) (by rcases hku.2 with h | h; exact .inl h; exact .inr (by omega))
        refine ⟨(u.lab ++ x.1, x.2), body_mem.2 (.inr ⟨u, hu, x.1, hx, rfl⟩), fun r e => ?_⟩
        cases hl : u.lab with
        | nil => exact hku.1 hl
        | cons a s =>
          rw [hl] at e
          simp only [List.cons_append, List.cons.injEq] at e
          rw [fst_cons hl, e.1] at hne
          exact hne rfl
      by_cases e : fst? k = b.toNat + 1
      · exact key k' h2 (by omega)
      · exact key k h1 e
/-- two canonical nodes with the same entries are alike -/
theorem can_uniq : ∀ t : RX, ∀ u : RX, Can t → Can u → (∀ x, x ∈ body t ↔ x ∈ body u) → t.val = u.val ∧ t.kids = u.kids := by
  intro t
  induction t using RX.ind with
  | h t ih =>
    intro u ht hu hm
    have hnil : ∀ (t : RX), Can t → ∀ w, ([], w) ∈ body t ↔ t.val = some w := fun t ht w => by
      rw [body_mem]
      constructor
      · rintro (h | ⟨k, hk, y, hy, e⟩)
        · exact h.2
        · exact absurd (List.append_eq_nil_iff.1 e.symm).1 (ht.kd k hk).1
      · exact fun h => .inl ⟨rfl, h⟩
    refine ⟨?_, ?_⟩
    · have h1 : ∀ w, t.val = some w ↔ u.val = some w := fun w => by rw [← hnil t ht, ← hnil u hu]; exact hm _
      exact Option.ext fun w => h1 w
    -- each kid of the one is a kid of the other
    have step : ∀ (t u : RX), Can t → Can u → (∀ x, x ∈ body t ↔ x ∈ body u) → (∀ k ∈ t.kids, ∀ v ∈ u.kids, Can k → Can v → (∀ x, x ∈ body k ↔ x ∈ body v) → k.val = v.val ∧ k.kids = v.kids) → ∀ k ∈ t.kids, k ∈ u.kids := by
      intro t u ht hu hm ih k hk
      have hkd := ht.kd k hk
      have hkc := ht.kids k hk
      obtain ⟨x, hx⟩ := body_some k hkc (by rcases hkd.2 with h | h; exact .inl h; exact .inr (by omega))
      cases hl : k.lab with
      | nil => exact absurd hl hkd.1
      | cons b s =>
        -- the kid of u that has x
        have hxt : (k.lab ++ x.1, x.2) ∈ body u := (hm _).1 (body_mem.2 (.inr ⟨k, hk, x.1, hx, rfl⟩))
        rcases body_mem.1 hxt with ⟨e, -⟩ | ⟨v, hv, y, hy, e⟩
        · rw [hl] at e; simp at e
        have hvd := hu.kd v hv
        have hvc := hu.kids v hv
        have hfv : ∃ s', v.lab = b :: s' := by
          cases hv' : v.lab with
          | nil => exact absurd hv' hvd.1
          | cons b' s' =>
            rw [hl, hv'] at e
            simp only [List.cons_append, List.cons.injEq] at e
            exact ⟨s', by rw [e.1]⟩
        obtain ⟨s', hlv⟩ := hfv
        -- entries of k and of v are the same, behind their labels
        have sub : ∀ (t u k v : RX) (b : UInt8) (s s' : List UInt8), Can u → (∀ x, x ∈ body t → x ∈ body u) → k ∈ t.kids → k.lab = b :: s → v ∈ u.kids → v.lab = b :: s' → ∀ z : Ent, z ∈ body k → ∃ y, (y, z.2) ∈ body v ∧ k.lab ++ z.1 = v.lab ++ y := by
          intro t u k v b s s' hu hm hk hl hv hlv z hz
          have h1 : (k.lab ++ z.1, z.2) ∈ body u := hm _ (body_mem.2 (.inr ⟨k, hk, z.1, hz, rfl⟩))
          rcases body_mem.1 h1 with ⟨e, -⟩ | ⟨v', hv', y, hy, e⟩
          · rw [hl] at e; simp at e
          have : fst? v' = fst? v := by
            cases hl' : v'.lab with
            | nil => exact absurd hl' (hu.kd v' hv').1
            | cons b' r' =>
              rw [hl, hl'] at e
              simp only [List.cons_append, List.cons.injEq] at e
              rw [fst_cons hl', fst_cons hlv, e.1]
          obtain rfl := rises_inj hu.rises hv' hv this
          exact ⟨y, hy, e⟩
        have s1 := sub t u k v b s s' hu (fun x h => (hm x).1 h) hk hl hv hlv
        have s2 := sub u t v k b s' s ht (fun x h => (hm x).2 h) hv hlv hk hl
        -- the labels are the same
        have lab : ∀ (k v : RX), Can k → Kd k → (∀ z : Ent, z ∈ body k → ∃ y, (y, z.2) ∈ body v ∧ k.lab ++ z.1 = v.lab ++ y) → v.lab.length ≤ k.lab.length := by
          intro k v hc hk hs
          rcases Nat.lt_or_ge k.lab.length v.lab.length with hlt | h
          · exfalso
            obtain ⟨x0, hx0⟩ := body_some k hc (by rcases hk.2 with h | h; exact .inl h; exact .inr (by omega))
            obtain ⟨y0, -, e0⟩ := hs x0 hx0
            have hp : ∃ b r, v.lab = k.lab ++ b :: r := by
              have h1 : k.lab <+: v.lab := by
                have h2 : k.lab <+: v.lab ++ y0 := ⟨x0.1, e0⟩
                exact List.prefix_of_prefix_length_le h2 (List.prefix_append _ _) (by omega)
              obtain ⟨r, hr⟩ := h1
              cases r with
              | nil => rw [List.append_nil] at hr; rw [hr] at hlt; omega
              | cons b r => exact ⟨b, r, hr.symm⟩
            obtain ⟨b, r, hp⟩ := hp
            obtain ⟨x1, hx1, hne⟩ := Kd.forks hc hk b
            obtain ⟨y1, -, e1⟩ := hs x1 hx1
            rw [hp, List.append_assoc] at e1
            have := List.append_cancel_left e1
            exact hne _ this
          · exact h
        have l1 := lab k v hkc hkd s1
        have l2 := lab v k hvc hvd s2
        have hlab : k.lab = v.lab := by
          obtain ⟨y, -, e1⟩ := s1 x hx
          exact (List.append_inj e1 (by omega)).1
        have hb : ∀ z, z ∈ body k ↔ z ∈ body v := fun z => by
          constructor
          · intro hz
            obtain ⟨y, hy, e1⟩ := s1 z hz
            rw [hlab] at e1
            rw [show z = (y, z.2) from Prod.ext (List.append_cancel_left e1) rfl]; exact hy
          · intro hz
            obtain ⟨y, hy, e1⟩ := s2 z hz
            rw [← hlab] at e1
            rw [show z = (y, z.2) from Prod.ext (List.append_cancel_left e1) rfl]; exact hy
        have := ih k hk v hv hkc hvc hb
        rw [RX.ext hlab this.1 this.2]
        exact hv
    have m1 := step t u ht hu hm fun k hk v _ hk' hv' hm' => ih k hk v hk' hv' hm'
    have m2 := step u t hu ht (fun x => (hm x).symm) fun k hk v hv hk' hv' hm' => by
      have := ih v hv k hv' hk' (fun x => (hm' x).symm)
      exact ⟨this.1.symm, this.2.symm⟩
    exact rises_same ht.rises hu.rises m1 m2
end Go.Proofs.Ytimhdegdmdilaaa
/- Radix trees: a kid is put in, replaced, taken out. -/
namespace Go.Proofs.Ytimhdegdmdilaaa
set_option linter.unusedVariables false
set_option maxRecDepth 100000
set_option linter.unusedSimpArgs false
set_option linter.unnecessarySimpa false
variable {l : List UInt8} {v : Option ByteArray} {as bs : List RX} {k u : RX}
theorem Can.ins (h : Can (.node l v (as ++ bs))) (hu : Can u) (hk : Kd u) (ha : ∀ a ∈ as, fst? a < fst? u) (hb : ∀ b ∈ bs, fst? u < fst? b) : Can (.node l v (as ++ u :: bs)) := by
  have hr := h.rises
  simp only [RX.kids] at hr
  rw [List.pairwise_append] at hr
  refine .mk (fun x hx => ?_) (fun x hx => ?_) ?_
  · rcases List.mem_append.1 hx with h1 | h1
    · exact h.kids x (List.mem_append.2 (.inl h1))
    · rcases List.mem_cons.1 h1 with rfl | h1
      · exact hu
      · exact h.kids x (List.mem_append.2 (.inr h1))
  · rcases List.mem_append.1 hx with h1 | h1
    · exact h.kd x (List.mem_append.2 (.inl h1))
    · rcases List.mem_cons.1 h1 with rfl | h1
      · exact hk
      · exact h.kd x (List.mem_append.2 (.inr h1))
  · rw [List.pairwise_append, List.pairwise_cons]
    refine ⟨hr.1, ⟨hb, hr.2.1⟩, fun a h1 b h2 => ?_⟩
    rcases List.mem_cons.1 h2 with rfl | h2
    · exact ha a h1
    · exact hr.2.2 a h1 b h2
theorem Can.del (h : Can (.node l v (as ++ k :: bs))) : Can (.node l v (as ++ bs)) := by
  have hr := h.rises
  simp only [RX.kids] at hr
  rw [List.pairwise_append, List.pairwise_cons] at hr
  have hm : ∀ x ∈ as ++ bs, x ∈ as ++ k :: bs := fun x hx => by
    rcases List.mem_append.1 hx with h1 | h1
    · exact List.mem_append.2 (.inl h1)
    · exact List.mem_append.2 (.inr (List.mem_cons.2 (.inr h1)))
  refine .mk (fun x hx => h.kids x (hm x hx)) (fun x hx => h.kd x (hm x hx)) ?_
  rw [List.pairwise_append]
  exact ⟨hr.1, hr.2.1.2, fun a h1 b h2 => hr.2.2 a h1 b (List.mem_cons.2 (.inr h2))⟩
/-- the kids about one that is there -/
theorem Can.about (h : Can (.node l v (as ++ k :: bs))) : (∀ a ∈ as, fst? a < fst? k) ∧ (∀ b ∈ bs, fst? k < fst? b) := by
  have hr := h.rises
  simp only [RX.kids] at hr
  rw [List.pairwise_append, List.pairwise_cons] at hr
  exact ⟨fun a ha => hr.2.2 a ha k (by simp), hr.2.1.1⟩
theorem Can.swap (h : Can (.node l v (as ++ k :: bs))) (hu : Can u) (hk : Kd u) (hf : fst? u = fst? k) : Can (.node l v (as ++ u :: bs)) :=
  h.del.ins hu hk (fun a ha => by rw [hf]; exact h.about.1 a ha) (fun b hb => by rw [hf]; exact h.about.2 b hb)
theorem Can.val_ (h : Can (.node l v as)) (w : Option ByteArray) : Can (.node l w as) := .mk h.kids h.kd h.rises
theorem Can.lab_ (h : Can (.node l v as)) (m : List UInt8) : Can (.node m v as) := .mk h.kids h.kd h.rises
theorem body_cut {x : Ent} : x ∈ body (.node l v (as ++ k :: bs)) ↔ x ∈ body (.node l v (as ++ bs)) ∨ ∃ y, (y, x.2) ∈ body k ∧ x.1 = k.lab ++ y := by
  rw [body_mem, body_mem]
  simp only [RX.val, RX.kids, List.mem_append, List.mem_cons]
  constructor
  · rintro (h | ⟨c, (h1 | rfl | h1), y, h2, h3⟩)
    · exact .inl (.inl h)
    · exact .inl (.inr ⟨c, .inl h1, y, h2, h3⟩)
    · exact .inr ⟨y, h2, h3⟩
    · exact .inl (.inr ⟨c, .inr h1, y, h2, h3⟩)
  · rintro ((h | ⟨c, (h1 | h1), y, h2, h3⟩) | ⟨y, h2, h3⟩)
    · exact .inl h
    · exact .inr ⟨c, .inl h1, y, h2, h3⟩
    · exact .inr ⟨c, .inr (.inr h1), y, h2, h3⟩
    · exact .inr ⟨k, .inr (.inl rfl), y, h2, h3⟩
/-- what is below a node does not depend on its label -/
theorem body_lab (m : List UInt8) : body (.node l v as) = body (.node m v as) := by rw [body.eq_def, body.eq_def]
/-- keys of kids begin with the kid's first byte -/
theorem body_first {x : Ent} {b : UInt8} {r : List UInt8} (h : Can (.node l v as)) (hx : x ∈ body (.node l v as)) (e : x.1 = b :: r) : ∃ k ∈ as, fst? k = b.toNat + 1 ∧ ∃ y, (y, x.2) ∈ body k ∧ x.1 = k.lab ++ y := by
  rcases body_mem.1 hx with ⟨h1, _⟩ | ⟨k, hk, y, h1, h2⟩
  · rw [h1] at e; cases e
  · refine ⟨k, hk, ?_, y, h1, h2⟩
    cases hl : k.lab with
    | nil => exact absurd hl (h.kd k hk).1
    | cons c s =>
      rw [h2, hl] at e
      simp only [List.cons_append, List.cons.injEq] at e
      rw [fst_cons hl, e.1]
end Go.Proofs.Ytimhdegdmdilaaa
/- Radix trees: what Put makes of a tree, by its members. -/
namespace Go.Proofs.Ytimhdegdmdilaaa
set_option linter.unusedVariables false
set_option maxRecDepth 100000
set_option linter.unusedSimpArgs false
set_option linter.unnecessarySimpa false
variable {l : List UInt8} {v : Option ByteArray} {as bs : List RX} {k u : RX}
/-- u has the members of t, and at r the value w -/
def InsX (r : List UInt8) (w : ByteArray) (t u : RX) : Prop := ∀ x : Ent, x ∈ body u ↔ x = (r, w) ∨ (x ∈ body t ∧ x.1 ≠ r)
/-- u has the members of t, but none at r -/
def DelX (r : List UInt8) (t u : RX) : Prop := ∀ x : Ent, x ∈ body u ↔ x ∈ body t ∧ x.1 ≠ r
theorem ins_here {ks : List RX} (h : Can (.node l v ks)) (w : ByteArray) : InsX [] w (.node l v ks) (.node l (some w) ks) := fun x => by
  rw [body_mem, body_mem]
  simp only [RX.val, RX.kids, Option.some.injEq]
  constructor
  · rintro (⟨h1, h2⟩ | ⟨k, hk, y, h1, h2⟩)
    · exact .inl (Prod.ext h1 h2.symm)
    · refine .inr ⟨.inr ⟨k, hk, y, h1, h2⟩, fun e => ?_⟩
      rw [h2] at e
      exact (h.kd k hk).1 (List.append_eq_nil_iff.1 e).1
  · rintro (rfl | ⟨(⟨h1, h2⟩ | h1), h3⟩)
    · exact .inl ⟨rfl, rfl⟩
    · exact absurd h1 h3
    · exact .inr h1
theorem del_here {ks : List RX} (h : Can (.node l v ks)) : DelX [] (.node l v ks) (.node l none ks) := fun x => by
  rw [body_mem, body_mem]
  simp only [RX.val, RX.kids]
  constructor
  · rintro (⟨h1, h2⟩ | ⟨k, hk, y, h1, h2⟩)
    · cases h2
    · refine ⟨.inr ⟨k, hk, y, h1, h2⟩, fun e => ?_⟩
      rw [h2] at e
      exact (h.kd k hk).1 (List.append_eq_nil_iff.1 e).1
  · rintro ⟨(⟨h1, h2⟩ | h1), h3⟩
    · exact absurd h1 h3
    · exact .inr h1
/-- kids that begin with another byte -/
def Others (b : UInt8) (ks : List RX) : Prop := ∀ c ∈ ks, c.lab ≠ [] ∧ fst? c ≠ b.toNat + 1
theorem Others.no {b : UInt8} {s : List UInt8} (h : Others b as) {x : Ent} (hx : x ∈ body (.node l v as)) : x.1 ≠ b :: s := fun e => by
  rcases body_mem.1 hx with ⟨h1, _⟩ | ⟨c, hc, y, h1, h2⟩
  · rw [h1] at e; cases e
  · obtain ⟨h3, h4⟩ := h c hc
    cases hl : c.lab with
    | nil => exact h3 hl
    | cons d t =>
      rw [h2, hl] at e
      simp only [List.cons_append, List.cons.injEq] at e
      rw [fst_cons hl, e.1] at h4
      exact h4 rfl
theorem Can.others (h : Can (.node l v (as ++ k :: bs))) {b : UInt8} {s : List UInt8} (hk : k.lab = b :: s) : Others b (as ++ bs) := fun c hc => by
  refine ⟨(h.del.kd c hc).1, ?_⟩
  rw [← fst_cons hk]
  rcases List.mem_append.1 hc with h1 | h1
  · have := h.about.1 c h1; omega
  · have := h.about.2 c h1; omega
theorem ins_new {b : UInt8} {s : List UInt8} (h : Others b (as ++ bs)) (w : ByteArray) : InsX (b :: s) w (.node l v (as ++ bs)) (.node l v (as ++ .node (b :: s) (some w) [] :: bs)) := fun x => by
  rw [body_cut]
  constructor
  · rintro (h1 | ⟨y, h1, h2⟩)
    · exact .inr ⟨h1, h.no h1⟩
    · rcases body_mem.1 h1 with ⟨e1, e2⟩ | ⟨c, hc, _⟩
      · simp only [RX.val, Option.some.injEq] at e2 e1
        rw [e1, List.append_nil] at h2
        exact .inl (Prod.ext h2 e2.symm)
      · simp [RX.kids] at hc
  · rintro (rfl | ⟨h1, _⟩)
    · exact .inr ⟨[], body_mem.2 (.inl ⟨rfl, rfl⟩), by simp [RX.lab]⟩
    · exact .inl h1
theorem ins_down {b : UInt8} {s r : List UInt8} {w : ByteArray} (h : Others b (as ++ bs)) (hk : k.lab = b :: s) (hl : u.lab = k.lab) (hi : InsX r w k u) : InsX (k.lab ++ r) w (.node l v (as ++ k :: bs)) (.node l v (as ++ u :: bs)) := fun x => by
  rw [body_cut, body_cut, hl]
  constructor
  · rintro (h1 | ⟨y, h1, h2⟩)
    · refine .inr ⟨.inl h1, ?_⟩
      rw [hk]
      exact h.no h1
    · rcases (hi (y, x.2)).1 h1 with e | ⟨e1, e2⟩
      · simp only [Prod.mk.injEq] at e
        rw [e.1] at h2
        exact .inl (Prod.ext h2 e.2)
      · refine .inr ⟨.inr ⟨y, e1, h2⟩, fun e => ?_⟩
        rw [h2] at e
        exact e2 (List.append_cancel_left e)
  · rintro (rfl | ⟨(h1 | ⟨y, h1, h2⟩), h3⟩)
    · exact .inr ⟨r, (hi _).2 (.inl rfl), rfl⟩
    · exact .inl h1
    · refine .inr ⟨y, (hi _).2 (.inr ⟨h1, fun e => h3 ?_⟩), h2⟩
      rw [h2]
      exact congrArg _ e
theorem del_down {b : UInt8} {s r : List UInt8} (h : Others b (as ++ bs)) (hk : k.lab = b :: s) (hl : u.lab = k.lab) (hi : DelX r k u) : DelX (k.lab ++ r) (.node l v (as ++ k :: bs)) (.node l v (as ++ u :: bs)) := fun x => by
  rw [body_cut, body_cut, hl]
  constructor
  · rintro (h1 | ⟨y, h1, h2⟩)
    · refine ⟨.inl h1, ?_⟩
      rw [hk]
      exact h.no h1
    · obtain ⟨e1, e2⟩ := (hi (y, x.2)).1 h1
      refine ⟨.inr ⟨y, e1, h2⟩, fun e => ?_⟩
      rw [h2] at e
      exact e2 (List.append_cancel_left e)
  · rintro ⟨(h1 | ⟨y, h1, h2⟩), h3⟩
    · exact .inl h1
    · refine .inr ⟨y, (hi _).2 ⟨h1, fun e => h3 ?_⟩, h2⟩
      rw [h2]
      exact congrArg _ e
/-- a kid's label is cut: the same members -/
theorem split_mem {p q : List UInt8} (hk : k.lab = p ++ q) (x : Ent) : x ∈ body (.node l v (as ++ .node p none [.node q k.val k.kids] :: bs)) ↔ x ∈ body (.node l v (as ++ k :: bs)) := by
  rw [body_cut, body_cut]
  refine or_congr Iff.rfl ?_
  have hb : body (.node q k.val k.kids) = body k := by
    conv => rhs; rw [RX.eta k]
    exact body_lab _
  constructor
  · rintro ⟨y, h1, h2⟩
    rcases body_mem.1 h1 with ⟨_, e⟩ | ⟨c, hc, z, h3, h4⟩
    · cases e
    · simp only [RX.kids, List.mem_singleton] at hc
      subst hc
      have h3' : (z, x.2) ∈ body k := by rw [← hb]; exact h3
      refine ⟨z, h3', ?_⟩
      simp only [RX.lab] at h2 h4
      rw [h2, h4, hk, List.append_assoc]
  · rintro ⟨z, h1, h2⟩
    refine ⟨q ++ z, body_mem.2 (.inr ⟨.node q k.val k.kids, List.mem_singleton.2 rfl, z, by rw [hb]; exact h1, rfl⟩), ?_⟩
    change x.1 = p ++ (q ++ z)
    rw [h2, hk, List.append_assoc]
end Go.Proofs.Ytimhdegdmdilaaa
/- Radix trees: a kid stays one. -/
namespace Go.Proofs.Ytimhdegdmdilaaa
set_option linter.unusedVariables false
set_option maxRecDepth 100000
set_option linter.unusedSimpArgs false
set_option linter.unnecessarySimpa false
theorem body_nil {t : RX} (h : Can t) {w : ByteArray} : ([], w) ∈ body t ↔ t.val = some w := by
  rw [body_mem]
  constructor
  · rintro (h1 | ⟨k, hk, y, hy, e⟩)
    · exact h1.2
    · exact absurd (List.append_eq_nil_iff.1 e.symm).1 (h.kd k hk).1
  · exact fun h1 => .inl ⟨rfl, h1⟩
/-- two keys that begin otherwise lie in two kids -/
theorem two_kids {t : RX} (h : Can t) {x y : Ent} {b c : UInt8} {r s : List UInt8} (hx : x ∈ body t) (hy : y ∈ body t) (ex : x.1 = b :: r) (ey : y.1 = c :: s) (hne : b ≠ c) : 2 ≤ t.kids.length := by
  rw [RX.eta t] at h hx hy
  obtain ⟨k, hk, fk, _⟩ := body_first h hx ex
  obtain ⟨k', hk', fk', _⟩ := body_first h hy ey
  match hl : t.kids with
  | [] => rw [hl] at hk; simp at hk
  | [z] =>
    exfalso
    rw [hl] at hk hk'
    rw [List.mem_singleton] at hk hk'
    rw [hk] at fk; rw [hk', fk] at fk'
    have e : b.toNat = c.toNat := by omega
    exact hne (UInt8.toNat_inj.1 e)
  | z :: z' :: zs => simp
/-- a kid that has two kids has two keys that begin otherwise -/
theorem kids_two {t : RX} (h : Can t) (h2 : 2 ≤ t.kids.length) : ∃ (x y : Ent) (b c : UInt8) (r s : List UInt8), x ∈ body t ∧ y ∈ body t ∧ x.1 = b :: r ∧ y.1 = c :: s ∧ b ≠ c := by
  match hl : t.kids, h2 with
  | k :: k' :: ks, _ =>
    have h1 : k ∈ t.kids := by rw [hl]; simp
    have h2 : k' ∈ t.kids := by rw [hl]; simp
    have hr := h.rises
    rw [hl, List.pairwise_cons] at hr
    have hlt := hr.1 k' (by simp)
    have d1 := h.kd k h1
    have d2 := h.kd k' h2
    obtain ⟨x, hx⟩ := body_some k (h.kids k h1) (by rcases d1.2 with h | h; exact .inl h; exact .inr (by omega))
    obtain ⟨y, hy⟩ := body_some k' (h.kids k' h2) (by rcases d2.2 with h | h; exact .inl h; exact .inr (by omega))
    cases e1 : k.lab with
    | nil => exact absurd e1 d1.1
    | cons b r =>
      cases e2 : k'.lab with
      | nil => exact absurd e2 d2.1
      | cons c s =>
        refine ⟨(k.lab ++ x.1, x.2), (k'.lab ++ y.1, y.2), b, c, r ++ x.1, s ++ y.1, body_mem.2 (.inr ⟨k, h1, x.1, hx, rfl⟩), body_mem.2 (.inr ⟨k', h2, y.1, hy, rfl⟩), by rw [e1]; rfl, by rw [e2]; rfl, fun e => ?_⟩
        rw [fst_cons e1, fst_cons e2, e] at hlt
        omega
/-- a kid into which a key is put is a kid still -/
theorem ins_kd {k u : RX} {r : List UInt8} {w : ByteArray} (hk : Can k) (hd : Kd k) (hu : Can u) (hl : u.lab = k.lab) (hi : InsX r w k u) : Kd u := by
  refine ⟨by rw [hl]; exact hd.1, ?_⟩
  by_cases hr : r = []
  · subst hr
    left
    rw [(body_nil hu).1 ((hi _).2 (.inl rfl))]; rfl
  · rcases hd.2 with h | h
    · obtain ⟨z, hz⟩ := Option.isSome_iff_exists.1 h
      left
      rw [(body_nil hu).1 ((hi ([], z)).2 (.inr ⟨(body_nil hk).2 hz, fun e => hr e.symm⟩))]; rfl
    · right
      obtain ⟨x, y, b, c, p, q, hx, hy, ex, ey, hne⟩ := kids_two hk h
      have key : ∀ x ∈ body k, ∃ x' ∈ body u, x'.1 = x.1 := fun x hx => by
        by_cases e : x.1 = r
        · exact ⟨(r, w), (hi _).2 (.inl rfl), e.symm⟩
        · exact ⟨x, (hi _).2 (.inr ⟨hx, e⟩), rfl⟩
      obtain ⟨x', hx', e1⟩ := key x hx
      obtain ⟨y', hy', e2⟩ := key y hy
      exact two_kids hu hx' hy' (e1.trans ex) (e2.trans ey) hne
/-- a branch that was just cut, with another key: a kid -/
theorem ins_split {p q : List UInt8} {k u : RX} {r : List UInt8} {w : ByteArray} {c : UInt8} {s : List UInt8} (hq : q = c :: s) (hk : Can k) (hd : Kd k) (hr : ∀ b t, r = b :: t → b ≠ c) (hp : p ≠ []) (hu : Can u) (hl : u.lab = p)
    (hi : InsX r w (.node p none [.node q k.val k.kids]) u) : Kd u := by
  refine ⟨by rw [hl]; exact hp, ?_⟩
  cases r with
  | nil =>
    left
    rw [(body_nil hu).1 ((hi _).2 (.inl rfl))]; rfl
  | cons b t =>
    right
    obtain ⟨x, hx⟩ := body_some k hk (by rcases hd.2 with h | h; exact .inl h; exact .inr (by omega))
    have hb : body (.node q k.val k.kids) = body k := by
      conv => rhs; rw [RX.eta k]
      exact body_lab _
    have hx' : (q ++ x.1, x.2) ∈ body (.node p none [.node q k.val k.kids]) := body_mem.2 (.inr ⟨.node q k.val k.kids, List.mem_singleton.2 rfl, x.1, by rw [hb]; exact hx, rfl⟩)
    have hne := hr b t rfl
    refine two_kids hu (x := (b :: t, w)) (y := (q ++ x.1, x.2)) (b := b) (c := c) (r := t) (s := s ++ x.1) ((hi _).2 (.inl rfl)) ((hi _).2 (.inr ⟨hx', fun e => ?_⟩)) rfl (by rw [hq]; rfl) hne
    rw [hq] at e
    simp only [List.cons_append, List.cons.injEq] at e
    exact hne e.1.symm
end Go.Proofs.Ytimhdegdmdilaaa
/- Radix trees: what Drop leaves. -/
namespace Go.Proofs.Ytimhdegdmdilaaa
set_option linter.unusedVariables false
set_option maxRecDepth 100000
set_option linter.unusedSimpArgs false
set_option linter.unnecessarySimpa false
variable {l : List UInt8} {v : Option ByteArray} {as bs : List RX} {k u : RX}
/-- a kid without kids is taken out with its key -/
theorem del_gone {b : UInt8} {s : List UInt8} (h : Others b (as ++ bs)) (hk : k.lab = b :: s) (h0 : k.kids = []) : DelX k.lab (.node l v (as ++ k :: bs)) (.node l v (as ++ bs)) := fun x => by
  rw [body_cut]
  constructor
  · intro h1
    refine ⟨.inl h1, ?_⟩
    rw [hk]
    exact h.no h1
  · rintro ⟨(h1 | ⟨y, h1, h2⟩), h3⟩
    · exact h1
    · rcases body_mem.1 h1 with ⟨e, _⟩ | ⟨c, hc, _⟩
      · simp only at e
        rw [e, List.append_nil] at h2
        exact absurd h2 h3
      · rw [h0] at hc; simp at hc
/-- a branch that is none any more takes its only kid's place: the same members -/
theorem join_mem {c : RX} (hv : u.val = none) (hc : u.kids = [c]) (x : Ent) : x ∈ body (.node l v (as ++ .node (u.lab ++ c.lab) c.val c.kids :: bs)) ↔ x ∈ body (.node l v (as ++ u :: bs)) := by
  rw [body_cut, body_cut]
  refine or_congr Iff.rfl ?_
  have hb : body (.node (u.lab ++ c.lab) c.val c.kids) = body c := by
    conv => rhs; rw [RX.eta c]
    exact body_lab _
  rw [hb]
  constructor
  · rintro ⟨z, h1, h2⟩
    refine ⟨c.lab ++ z, body_mem.2 (.inr ⟨c, by rw [hc]; exact List.mem_singleton.2 rfl, z, h1, rfl⟩), ?_⟩
    change x.1 = (u.lab ++ c.lab) ++ z at h2
    rw [h2, List.append_assoc]
  · rintro ⟨y, h1, h2⟩
    rcases body_mem.1 h1 with ⟨_, e⟩ | ⟨d, hd, z, h3, h4⟩
    · rw [hv] at e; cases e
    · rw [hc, List.mem_singleton] at hd
      subst hd
      refine ⟨z, h3, ?_⟩
      change y = d.lab ++ z at h4
      change x.1 = (u.lab ++ d.lab) ++ z
      rw [h2, h4, List.append_assoc]
theorem join_kd {c : RX} (p : List UInt8) (h : Kd c) : Kd (.node (p ++ c.lab) c.val c.kids) := ⟨fun e => h.1 (List.append_eq_nil_iff.1 e).2, h.2⟩
theorem join_can {c : RX} (p : List UInt8) (h : Can c) : Can (.node (p ++ c.lab) c.val c.kids) := .mk h.kids h.kd h.rises
/-- something is left below a kid that has kids -/
theorem del_some {r : List UInt8} (hk : Can k) (hd : Kd k) (h0 : 1 ≤ k.kids.length) (hi : DelX r k u) : ∃ x, x ∈ body u := by
  rcases hd.2 with h | h
  · obtain ⟨z, hz⟩ := Option.isSome_iff_exists.1 h
    by_cases hr : r = []
    · match hl : k.kids, h0 with
      | c :: cs, _ =>
        have hc : c ∈ k.kids := by rw [hl]; simp
        have dc := hk.kd c hc
        obtain ⟨x, hx⟩ := body_some c (hk.kids c hc) (by rcases dc.2 with h | h; exact .inl h; exact .inr (by omega))
        refine ⟨(c.lab ++ x.1, x.2), (hi _).2 ⟨body_mem.2 (.inr ⟨c, hc, x.1, hx, rfl⟩), fun e => ?_⟩⟩
        rw [hr] at e
        exact dc.1 (List.append_eq_nil_iff.1 e).1
    · exact ⟨([], z), (hi _).2 ⟨(body_nil hk).2 hz, fun e => hr e.symm⟩⟩
  · obtain ⟨x, y, b, c, p, q, hx, hy, ex, ey, hne⟩ := kids_two hk h
    by_cases e : x.1 = r
    · refine ⟨y, (hi _).2 ⟨hy, fun e' => ?_⟩⟩
      rw [← e, ex, ey] at e'
      simp only [List.cons.injEq] at e'
      exact hne e'.1.symm
    · exact ⟨x, (hi _).2 ⟨hx, e⟩⟩
/-- what a kid is after a drop: a kid, or a branch with one kid, to be joined -/
theorem del_kd {r : List UInt8} (hk : Can k) (hd : Kd k) (h0 : 1 ≤ k.kids.length) (hu : Can u) (hl : u.lab = k.lab) (hi : DelX r k u) : Kd u ∨ (u.val = none ∧ ∃ c, u.kids = [c]) := by
  cases hv : u.val with
  | some w => exact .inl ⟨by rw [hl]; exact hd.1, .inl (by rw [hv]; rfl)⟩
  | none =>
    match hks : u.kids with
    | [] =>
      obtain ⟨x, hx⟩ := del_some hk hd h0 hi
      rcases body_mem.1 hx with ⟨_, e⟩ | ⟨c, hc, _⟩
      · rw [hv] at e; cases e
      · rw [hks] at hc; simp at hc
    | [c] => exact .inr ⟨rfl, c, rfl⟩
    | c :: c' :: cs => exact .inl ⟨by rw [hl]; exact hd.1, .inr (by rw [hks]; simp)⟩
end Go.Proofs.Ytimhdegdmdilaaa
