/- Two trees look alike just if their pairs are. -/
import Derived.Test.YtchimfgbdfmegaaHbb
import Derived.Test.YtchimfgbdfmegaaHaf
namespace Go.Proofs.Ytchimfgbdfmegaa
open Go.RowKit Go.Lib
set_option linter.unusedVariables false
set_option linter.unnecessarySimpa false
set_option linter.unusedSimpArgs false
set_option linter.unnecessarySimpa false
set_option maxRecDepth 100000
theorem strB_inj {s t : ByteArray} (h : strB s = strB t) : s = t := by
  unfold strB at h
  exact bytes_ext ((List.map_inj_right fun a b h => UInt8.toNat_inj.1 h).1 h)
theorem twoB_inj {a b : Nat} (ha : a < 65536) (hb : b < 65536) (h : twoB a = twoB b) : a = b := by
  simp only [twoB, List.cons.injEq, and_true] at h
  omega
theorem app_split {a b r r' : List Nat} (h : a ++ r = b ++ r') (hl : a.length = b.length) : a = b ∧ r = r' := List.append_inj h hl
theorem textB_split {s t : ByteArray} {r r' : List Nat} (hs : s.size < 65536) (ht : t.size < 65536) (h : textB s ++ r = textB t ++ r') : s = t ∧ r = r' := by
  unfold textB at h
  rw [List.append_assoc, List.append_assoc] at h
  obtain ⟨h1, h2⟩ := app_split h rfl
  have h3 := twoB_inj hs ht h1
  obtain ⟨h4, h5⟩ := app_split h2 (by rw [strB_len, strB_len, h3])
  exact ⟨strB_inj h4, h5⟩
theorem valB_split {v v' : Option ByteArray} {r r' : List Nat} (hv : ∀ x, v = some x → x.size < 65536) (hv' : ∀ x, v' = some x → x.size < 65536) (h : valB v ++ r = valB v' ++ r') : v = v' ∧ r = r' := by
  cases v with
  | none =>
    cases v' with
    | none => exact ⟨rfl, by simpa [valB] using h⟩
    | some y => simp [valB] at h
  | some x =>
    cases v' with
    | none => simp [valB] at h
    | some y =>
      simp only [valB, List.cons_append, List.cons.injEq, true_and] at h
      obtain ⟨rfl, h2⟩ := textB_split (hv x rfl) (hv' y rfl) h
      exact ⟨rfl, h2⟩
/-- a tree of short keys and values -/
structure Sm (t : RX) : Prop where
  can : Can t
  shr : Shrt 40 t
  vs : VS 40 t
  lab : t.lab.length ≤ 40
theorem Sm.kid {t k : RX} (h : Sm t) (hk : k ∈ t.kids) : Sm k := ⟨h.can.kids k hk, h.shr.kid hk, h.vs.kid hk, h.shr.lab h.can hk⟩
theorem shBL_split : ∀ (ks ks' : List RX), (∀ k ∈ ks, ∀ u, Sm u → ∀ r r' : List Nat, shB k ++ r = shB u ++ r' → k = u ∧ r = r') → (∀ k ∈ ks', Sm k) → ks.length = ks'.length → ∀ r r' : List Nat, shBL ks ++ r = shBL ks' ++ r' → ks = ks' ∧ r = r'
  | [], [], _, _, _, r, r', h => by
    rw [shBL] at h
    exact ⟨rfl, by simpa using h⟩
  | [], _ :: _, _, _, hl, _, _, _ => by simp at hl
  | _ :: _, [], _, _, hl, _, _, _ => by simp at hl
  | k :: ks, u :: us, ih, hs, hl, r, r', h => by
    rw [shBL_cons, shBL_cons, List.append_assoc, List.append_assoc] at h
    obtain ⟨rfl, h2⟩ := ih k (by simp) u (hs u (by simp)) _ _ h
    obtain ⟨rfl, h3⟩ := shBL_split ks us (fun k hk => ih k (by simp [hk])) (fun k hk => hs k (by simp [hk])) (by simpa using hl) _ _ h2
    exact ⟨rfl, h3⟩
theorem shB_split : ∀ t : RX, Sm t → ∀ u, Sm u → ∀ r r' : List Nat, shB t ++ r = shB u ++ r' → t = u ∧ r = r' := by
  intro t
  induction t using RX.ind with
  | h t ih =>
    intro ht u hu r r' h
    rw [shB_eq, shB_eq] at h
    have hs : ∀ t : RX, Sm t → (labS t).size < 65536 := fun t ht => by
      have h1 := ht.lab
      have : (labS t).size = t.lab.length := by unfold labS; simp [ByteArray.size]
      omega
    have hv : ∀ t : RX, Sm t → ∀ x, t.val = some x → x.size < 65536 := fun t ht x hx => by
      have := ht.vs.val hx
      omega
    unfold headB at h
    simp only [List.append_assoc] at h
    obtain ⟨e1, h⟩ := textB_split (hs t ht) (hs u hu) h
    obtain ⟨e2, h⟩ := valB_split (hv t ht) (hv u hu) h
    obtain ⟨e3, h⟩ := app_split h rfl
    have k1 := kids_few ht.can
    have k2 := kids_few hu.can
    have e4 := twoB_inj (by omega) (by omega) e3
    obtain ⟨e5, h⟩ := shBL_split t.kids u.kids (fun k hk => ih k hk (ht.kid hk)) (fun k hk => hu.kid hk) e4 _ _ h
    refine ⟨RX.ext ?_ e2 e5, h⟩
    have := congrArg (fun s : ByteArray => s.data.toList) e1
    simpa [labS] using this
theorem twoB_lt {n x : Nat} (h : x ∈ twoB n) : x < 256 := by
  unfold twoB at h
  simp at h
  omega
theorem textB_lt {s : ByteArray} {x : Nat} (h : x ∈ textB s) : x < 256 := by
  unfold textB strB at h
  rcases List.mem_append.1 h with h | h
  · exact twoB_lt h
  · obtain ⟨b, -, rfl⟩ := List.mem_map.1 h
    exact b.toNat_lt
theorem headB_lt {t : RX} {x : Nat} (h : x ∈ headB t) : x < 256 := by
  unfold headB at h
  rcases List.mem_append.1 h with h | h
  · exact textB_lt h
  · rcases List.mem_append.1 h with h | h
    · cases hv : t.val with
      | none => rw [hv] at h; simp [valB] at h; omega
      | some v =>
        rw [hv] at h
        simp only [valB, List.mem_cons] at h
        rcases h with h | h
        · omega
        · exact textB_lt h
    · exact twoB_lt h
theorem shBL_lt : ∀ ks : List RX, (∀ k ∈ ks, ∀ x ∈ shB k, x < 256) → ∀ x ∈ shBL ks, x < 256
  | [], _, x, h => by rw [shBL] at h; simp at h
  | k :: ks, hk, x, h => by
    rw [shBL_cons] at h
    rcases List.mem_append.1 h with h | h
    · exact hk k (by simp) x h
    · exact shBL_lt ks (fun k h => hk k (by simp [h])) x h
theorem shB_lt : ∀ t : RX, ∀ x ∈ shB t, x < 256 := by
  intro t
  induction t using RX.ind with
  | h t ih =>
    intro x h
    rw [shB_eq] at h
    rcases List.mem_append.1 h with h | h
    · exact headB_lt h
    · exact shBL_lt t.kids ih x h
theorem bytS_inj {L M : List Nat} (hL : ∀ x ∈ L, x < 256) (hM : ∀ x ∈ M, x < 256) (h : bytS L = bytS M) : L = M := by
  have h1 := congrArg (fun s : ByteArray => s.data.toList) h
  unfold bytS at h1
  simp only [strOfNums_data, List.map_map] at h1
  have h2 := congrArg (List.map UInt8.toNat) h1
  simp only [List.map_map] at h2
  have e : ∀ K : List Nat, (∀ x ∈ K, x < 256) → List.map (UInt8.toNat ∘ (fun n => UInt8.ofNat n.toNat) ∘ fun n : Nat => (n : Int)) K = K := fun K hK => by
    conv => rhs; rw [← List.map_id K]
    refine List.map_congr_left fun x hx => ?_
    have := hK x hx
    simp
    omega
  rw [e L hL, e M hM] at h2
  exact h2
theorem PW.sm {w : World} {b : Nat} {ps : List Pr} (h : PW w b ps) : ∃ t, TreeW w b t ∧ prs t = ps ∧ Sm t := by
  obtain ⟨t, h1, rfl, h3⟩ := h
  exact ⟨t, h1, rfl, h1.can, h1.shr, fun x hx => h3 _ (List.mem_map_of_mem hx), by rw [h1.lab]; simp⟩
theorem eql_node_same (b : Nat) (w : World) : (binOp .eql 30 (at0 b) (at0 b)).run Try.prog w = .ok (.bool true) w := by
  obtain ⟨j, hj, hs⟩ := info101
  exact run_eql_ptr_same (P := Try.prog) (w := w) ⟨b, 0, none⟩ Try.underlying30 hj
theorem eql_node_other {a b : Nat} {ca cb : Array Value} {ta tb : TypeId} (w : World) (hne : a ≠ b) (ha : Blk w a ta ca) (hb : Blk w b tb cb) :
    (binOp .eql 30 (at0 a) (at0 b)).run Try.prog w = .ok (.bool false) w := by
  obtain ⟨j, hj, hs⟩ := info101
  exact run_eql_ptr_other w Try.underlying30 hj hs (fun e => hne (congrArg Addr.block e)) ha hb
/-- Same -/
theorem same_pw {w : World} {a b : Nat} {ps qs : List Pr} (ha : PW w a ps) (hb : PW w b qs) (hp : ps.length ≤ 1000) (hq : qs.length ≤ 1000) : Calls Try.prog 31 #[at0 a, at0 b] w fun e w' => e = .returned (.bool (leq ps qs)) ∧ Below w.heap.size w w' := by
  obtain ⟨t, ht, rfl, st⟩ := ha.sm
  obtain ⟨u, hu, rfl, su⟩ := hb.sm
  have bt := ht.bnd st.vs hp
  have bu := hu.bnd su.vs hq
  have k1 := shape_any a t w ht.rad bt.can.few bt.sh
  have HU := Lib.hid (fun w' (h : Below w.heap.size w w') => shape_any b u w' (hu.rad.stay h) bu.can.few bu.sh)
  have e : ((bytS (shB t)).toList == (bytS (shB u)).toList) = leq (prs t) (prs u) := by
    unfold leq
    by_cases h : prs t = prs u
    · rw [decide_eq_true h]
      obtain ⟨h1, h2⟩ := can_uniq t u ht.can hu.can fun x => by
        have h3 : toPr x ∈ prs t ↔ toPr x ∈ prs u := by rw [h]
        rw [prs_mem, prs_mem] at h3
        simpa [key, toPr] using h3
      have hh : t = u := RX.ext (by rw [ht.lab, hu.lab]) h1 h2
      rw [hh]; simp
    · rw [decide_eq_false h, beq_eq_false_iff_ne]
      intro e
      apply h
      have e1 : bytS (shB t) = bytS (shB u) := bytes_ext (by rw [ByteArray.toList_eq, ByteArray.toList_eq] at e; exact e)
      have e2 := bytS_inj (shB_lt t) (shB_lt u) e1
      obtain ⟨e3, -⟩ := shB_split t st u su [] [] (by rw [e2])
      rw [e3]
  rw [← e]
  by_cases hab : a = b
  · subst hab
    have hh : t = u := ht.rad.same hu.rad
    subst hh
    have he := eql_node_same a w
    rw [show ((bytS (shB t)).toList == (bytS (shB t)).toList) = true by simp]
    clear e k1 HU bt bu st su hp hq ht hu ha hb
    unfold at0 at he ⊢
    go_enter Try.func31, Try.ntmps31
    go_wp2_with fail
    go_ret
    exact ⟨rfl, Below.refl _ _⟩
  obtain ⟨bb, hbb⟩ : ∃ bb, bb = ((bytS (shB t)).toList == (bytS (shB u)).toList) := ⟨_, rfl⟩
  rw [← hbb]
  have HBB := Lib.hid hbb
  have he : (binOp .eql 30 (at0 a) (at0 b)).run Try.prog w = .ok (.bool false) w := by
    cases ht.rad with
    | mk n1 =>
      cases hu.rad with
      | mk n2 =>
        obtain ⟨o, lab, val, sh, hB1, -⟩ := n1.blk
        obtain ⟨o', lab', val', sh', hB2, -⟩ := n2.blk
        exact eql_node_other w hab hB1 hB2
  clear e hbb bt bu st su hp hq ht hu ha hb
  unfold at0 at k1 HU he ⊢
  go_enter Try.func31, Try.ntmps31
  go_wp2_with fail
  refine k1.mono ?_
  rintro e w1 ⟨v1, rfl, ho1, hB1⟩
  have k2 := HU.out w1 hB1
  clear HU k1
  go_wp2_with fail
  refine k2.mono ?_
  rintro e w2 ⟨v2, rfl, ho2, hB2⟩
  have k3 := equal_any w.heap.size w1.heap.size v1 v2 (shB t) (shB u) w2 (ho1.below hB2) ho2
  clear k2
  rw [← HBB.out] at k3
  go_wp2_with fail
  refine k3.mono ?_
  rintro e w3 ⟨rfl, rfl⟩
  go_wp2_with fail
  go_ret
  exact ⟨rfl, hB1.trans (hB2.mono hB1.size)⟩
end Go.Proofs.Ytchimfgbdfmegaa
/- Rows of pairs, of strings: mathematics. -/
namespace Go.Proofs.Ytchimfgbdfmegaa
open Go.RowKit Go.Lib
set_option linter.unusedVariables false
set_option linter.unnecessarySimpa false
set_option linter.unusedSimpArgs false
set_option linter.unnecessarySimpa false
set_option maxRecDepth 100000
section
variable {ps : List Pr}
theorem rises_key {x y : Pr} (h : RisesL ps) (hx : x ∈ ps) (hy : y ∈ ps) (e : x.1 = y.1) : x = y := by
  induction ps with
  | nil => simp at hx
  | cons q r ih =>
    have h1 := (List.pairwise_cons.1 h).1
    have h2 := (List.pairwise_cons.1 h).2
    rcases List.mem_cons.1 hx with rfl | hx' <;> rcases List.mem_cons.1 hy with rfl | hy'
    · rfl
    · exact absurd e (h1 y hy').ne
    · exact absurd e.symm (h1 x hx').ne
    · exact ih h2 hx' hy'
theorem put_sets {p x : Pr} : x ∈ putK ps p ↔ x = p ∨ (x ∈ ps ∧ x.1 ≠ p.1) := by
  unfold putK
  rw [ins_mem, drop_mem]
end
theorem rises_nil : RisesL [] := List.Pairwise.nil
theorem rises_ext : ∀ {xs ys : List Pr}, RisesL xs → RisesL ys → (∀ p, p ∈ xs ↔ p ∈ ys) → xs = ys
  | [], [], _, _, _ => rfl
  | [], y :: ys, _, _, h => by have := (h y).2 (by simp); simp at this
  | x :: xs, [], _, _, h => by have := (h x).1 (by simp); simp at this
  | x :: xs, y :: ys, hx, hy, h => by
    have x1 := (List.pairwise_cons.1 hx).1
    have x2 := (List.pairwise_cons.1 hx).2
    have y1 := (List.pairwise_cons.1 hy).1
    have y2 := (List.pairwise_cons.1 hy).2
    have e : x = y := by
      rcases List.mem_cons.1 ((h x).1 (by simp)) with e | hm
      · exact e
      · rcases List.mem_cons.1 ((h y).2 (by simp)) with e | hm'
        · exact e.symm
        · exact absurd ((y1 x hm).trans (x1 y hm')) (fun h => h.ne rfl)
    subst e
    rw [rises_ext x2 y2 fun p => ?_]
    constructor
    · intro hp
      rcases List.mem_cons.1 ((h p).1 (List.mem_cons_of_mem _ hp)) with e | hm
      · subst e; exact absurd (x1 p hp) (fun h => h.ne rfl)
      · exact hm
    · intro hp
      rcases List.mem_cons.1 ((h p).2 (List.mem_cons_of_mem _ hp)) with e | hm
      · subst e; exact absurd (y1 p hp) (fun h => h.ne rfl)
      · exact hm
theorem swap_mem {α : Type} {ks : List α} {i j : Nat} (hi : i < ks.length) (hj : j < ks.length) (k : α) : k ∈ (ks.set i ks[j]).set j ks[i] ↔ k ∈ ks := by
  constructor
  · intro h
    rcases List.mem_or_eq_of_mem_set h with h | rfl
    · rcases List.mem_or_eq_of_mem_set h with h | rfl
      · exact h
      · exact List.getElem_mem _
    · exact List.getElem_mem _
  · intro h
    obtain ⟨n, hn, e⟩ := List.getElem_of_mem h
    by_cases h1 : n = i
    · subst h1
      rw [List.mem_iff_getElem]
      exact ⟨j, by simpa using hj, by rw [List.getElem_set_self]; exact e⟩
    · by_cases h2 : n = j
      · subst h2
        rw [List.mem_iff_getElem]
        exact ⟨i, by simpa using hi, by rw [List.getElem_set_ne (by omega), List.getElem_set_self]; exact e⟩
      · rw [List.mem_iff_getElem]
        exact ⟨n, by simpa using hn, by rw [List.getElem_set_ne (by omega), List.getElem_set_ne (by omega)]; exact e⟩
theorem drop_key_mem {ps : List Pr} {k : ByteArray} {p : Pr} : p ∈ dropK ps k ↔ p ∈ ps ∧ p.1 ≠ k := drop_mem _ _ _
theorem pat_eq {xs : List Pr} {j : Nat} (h : j < xs.length) : pat xs j = xs[j] := by
  have := pat_get (xs := xs) (p := j) h
  rw [List.getElem?_eq_getElem h] at this
  exact (Option.some.inj this).symm
theorem sw_mem {xs : List Pr} {i j : Nat} (hi : i < xs.length) (hj : j < xs.length) (p : Pr) : p ∈ sw xs i j ↔ p ∈ xs := by
  unfold sw
  rw [pat_eq hi, pat_eq hj]
  exact swap_mem hi hj p
theorem rises_len : ∀ {R L : List Pr}, RisesL R → (∀ p ∈ R, p ∈ L) → R.length ≤ L.length
  | [], L, _, _ => by simp
  | x :: r, L, hr, h => by
    have h1 := (List.pairwise_cons.1 hr).1
    have h2 := (List.pairwise_cons.1 hr).2
    have hx := h x (by simp)
    have h3 := rises_len (L := L.filter fun p => decide (p.1 ≠ x.1)) h2 fun p hp => List.mem_filter.2 ⟨h p (by simp [hp]), by simpa using fun e => (h1 p hp).ne e.symm⟩
    have h4 : (L.filter fun p => decide (p.1 ≠ x.1)).length < L.length := List.length_filter_lt_length_iff_exists.2 ⟨x, hx, by simp⟩
    simp; omega
theorem norm_mem {xs R : List Pr} (h : IsNorm xs R) : ∀ p ∈ R, p ∈ xs := fun p hp => by
  have := (h.mem p).1 hp
  have h1 := List.mem_of_getLast? this
  unfold withKey at h1
  exact (List.mem_filter.1 h1).1
theorem isK_mem {S : List Pr} (k : ByteArray) (hr : RisesL S) : isK S k = true ↔ ∃ s ∈ S, s.1 = k := by
  constructor
  · intro h
    have hl := isK_ltR h
    exact ⟨pat S (posK S k), List.mem_of_getElem? (pat_get hl), by unfold isK at h; exact (of_decide_eq_true h).2⟩
  · rintro ⟨s, hs, rfl⟩
    exact isK_memR (v := s.2) hr hs
theorem argp_at {w wr : World} {a : Option Addr} {len cap : Nat} {ps : List Pr} (h : ArgP w a len cap ps) (hB : Below w.heap.size w wr) (j : Nat) (hj : j < len) :
    ∃ x : Addr, a = some x ∧ ps.length = len ∧ wr.cell? (x.add (j * 2)) = some (.string (pat ps j).1) ∧ wr.cell? ⟨(x.add (j * 2)).block, (x.add (j * 2)).off + 1, none⟩ = some (.string (pat ps j).2) := by
  rcases h with ⟨_, h, _⟩ | ⟨x, rfl, hl, hm, hz, hcell⟩
  · omega
  · have hp := pat_get (xs := ps) (p := j) (by omega)
    have hf := flat_get ps j _ hp
    have c0 := hcell _ _ hf.1
    have c1 := hcell _ _ hf.2
    exact ⟨x, rfl, hl, (hB.cell (World.block_lt_of_cell? w _ c0)).trans c0, by rw [show (⟨(x.add (j * 2)).block, (x.add (j * 2)).off + 1, none⟩ : Addr) = (x.add (j * 2)).add 1 from rfl, Addr.add_add]; exact (hB.cell (World.block_lt_of_cell? w _ c1)).trans c1⟩
theorem zsz_pr : (Value.cells (.agg #[.string ByteArray.empty, .string ByteArray.empty])).size = 2 := by simp [Value.cells]
/-- the keys that come and go -/
def gks (ps : List Pr) : List ByteArray := (ps.take 20).map fun q => (few40 q).1
theorem gks_len (ps : List Pr) : (gks ps).length ≤ 20 := by unfold gks; rw [List.length_map, List.length_take]; omega
theorem gks_at {ps : List Pr} {j : Nat} (h : j < 20) (hl : j < ps.length) : (gks ps)[j]? = some (few40 (pat ps j)).1 := by
  have := pat_get (xs := ps) (p := j) hl
  unfold gks
  rw [List.getElem?_map, List.getElem?_take, if_pos h, this]; rfl
theorem gks_drop {ps : List Pr} {j : Nat} {k : ByteArray} (h : (gks ps)[j]? = some k) {x : ByteArray} (hx : x ∈ (gks ps).drop j) : x = k ∨ x ∈ (gks ps).drop (j + 1) := by
  obtain ⟨hl, he⟩ := List.getElem?_eq_some_iff.1 h
  rw [List.drop_eq_getElem_cons hl] at hx
  rcases List.mem_cons.1 hx with hx | hx
  · exact .inl (hx.trans he)
  · exact .inr hx
end Go.Proofs.Ytchimfgbdfmegaa
