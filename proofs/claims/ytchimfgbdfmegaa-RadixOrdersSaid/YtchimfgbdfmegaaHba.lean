/- The calls of radix in words of lists of pairs. -/
import Derived.Test.YtchimfgbdfmegaaHar
import Derived.Test.YtchimfgbdfmegaaHal
import Derived.SliceStrings
namespace Go.Proofs.Ytchimfgbdfmegaa
open Go.RowKit Go.Lib
set_option linter.unusedVariables false
set_option linter.unnecessarySimpa false
set_option linter.unusedSimpArgs false
set_option linter.unnecessarySimpa false
set_option maxRecDepth 100000
theorem isK_ltR {xs : List Pr} {k : ByteArray} (h : isK xs k = true) : posK xs k < xs.length := by unfold isK at h; exact (of_decide_eq_true h).1
theorem isK_memR {xs : List Pr} {k v : ByteArray} (hr : RisesL xs) (h : (k, v) ∈ xs) : isK xs k = true := by
  obtain ⟨j, hj, he⟩ := List.mem_iff_getElem.1 h
  have hp : pat xs j = (k, v) := by
    have := pat_get hj
    rw [List.getElem?_eq_getElem hj, he] at this
    exact (Option.some.inj this).symm
  have h1 : posK xs k ≤ j := by
    rcases Nat.lt_or_ge j (posK xs k) with hlt | hge
    · have h2 := posK_lt xs k j hlt
      rw [hp] at h2
      exact absurd rfl h2.ne
    · exact hge
  have hl : posK xs k < xs.length := by omega
  unfold isK
  rw [decide_eq_true_eq]
  refine ⟨hl, ?_⟩
  rcases Nat.lt_or_ge (posK xs k) j with hlt | hge
  · have h2 := rises_at hr hlt hj
    rw [hp] at h2
    exact absurd h2 (posK_not xs k hl)
  · rw [show posK xs k = j by omega, hp]
/-- a key's value in a list -/
def getR (xs : List Pr) (k : ByteArray) : Option ByteArray := if isK xs k = true then some (pat xs (posK xs k)).2 else none
theorem getR_mem {xs : List Pr} {k v : ByteArray} (h : getR xs k = some v) : (k, v) ∈ xs := by
  unfold getR at h
  split at h
  · rename_i hk
    have hl := isK_ltR hk
    have hm := List.mem_of_getElem? (pat_get hl)
    have e : (pat xs (posK xs k)).1 = k := by unfold isK at hk; exact (of_decide_eq_true hk).2
    have e2 : (pat xs (posK xs k)).2 = v := Option.some.inj h
    rw [← e, ← e2]; exact hm
  · cases h
theorem getR_none {xs : List Pr} {k : ByteArray} (hr : RisesL xs) (h : getR xs k = none) (v : ByteArray) : (k, v) ∉ xs := fun hm => by
  unfold getR at h
  rw [if_pos (isK_memR hr hm)] at h
  cases h
theorem prs_one {t : RX} (h : Can t) {k v v' : ByteArray} (h1 : (k, v) ∈ prs t) (h2 : (k, v') ∈ prs t) : v = v' := can_one h (prs_mem.1 h1) (prs_mem.1 h2)
theorem getR_prs {t : RX} (h : Can t) {k v : ByteArray} : getR (prs t) k = some v ↔ (k.data.toList, v) ∈ body t := by
  constructor
  · intro hg; exact prs_mem.1 (getR_mem hg)
  · intro hm
    have hp : (k, v) ∈ prs t := prs_mem.2 hm
    cases hg : getR (prs t) k with
    | none => exact absurd hp (getR_none (prs_rises h) hg v)
    | some v' => rw [prs_one h (getR_mem hg) hp]
set_option maxHeartbeats 1000000 in
theorem refGetR_any (A : Option Addr) (c : Nat) (xs : List Pr) (k : ByteArray) (w : World) (hR : Rd w A xs) (hn : xs.length ≤ 1000) (hz : Sized xs) (hk : k.size ≤ maxLen) :
    Calls Try.prog 17 #[.slice A xs.length c, .string k] w fun e w' => e = .returned (.tuple #[.string ((getR xs k).getD ⟨#[]⟩), .bool (getR xs k).isSome]) ∧ Below w.heap.size w w' := by
  have kf := refFind_any A c xs k w hR hn hz hk
  unfold getR
  cases hik : isK xs k with
  | true =>
    rw [hik] at kf
    rw [if_pos rfl]
    have hl := isK_ltR hik
    obtain ⟨g, off, rfl, c0, c1⟩ := hR _ _ (pat_get hl)
    have B1 : ((posK xs k : Nat) : Int) < (xs.length : Int) := by omega
    clear hik hR
    generalize posK xs k = P at *
    go_enter Try.func17, Try.ntmps17
    go_wp2_with fail
    refine kf.mono ?_
    rintro e w1 ⟨rfl, q, rfl⟩
    have d1 : (w.drewN q).cell? ⟨g, off + P * 2 + 1, none⟩ = some (.string (pat xs P).2) := c1
    have hB : Below w.heap.size w (w.drewN q) := ⟨rfl, rfl, rfl, Nat.le_refl _, fun _ _ => rfl⟩
    clear kf c0 c1
    generalize w.drewN q = W at *
    go_wp2_with fail
    go_ret2
    exact ⟨rfl, hB⟩
  | false =>
    rw [hik] at kf
    rw [if_neg (by simp)]
    clear hik hR
    generalize posK xs k = P at *
    go_enter Try.func17, Try.ntmps17
    go_wp2_with fail
    refine kf.mono ?_
    rintro e w1 ⟨rfl, q, rfl⟩
    have hB : Below w.heap.size w (w.drewN q) := ⟨rfl, rfl, rfl, Nat.le_refl _, fun _ _ => rfl⟩
    generalize w.drewN q = W at *
    go_wp2_with fail
    go_ret2
    exact ⟨rfl, hB⟩
/-- a tree of these pairs -/
def PW (w : World) (b : Nat) (ps : List Pr) : Prop := ∃ t, TreeW w b t ∧ prs t = ps ∧ ∀ p ∈ ps, p.2.size ≤ 40
theorem PW.below {w w' : World} {b : Nat} {ps : List Pr} (h : PW w b ps) (hb : Below w.heap.size w w') : PW w' b ps := by
  obtain ⟨t, h1, h2, h3⟩ := h
  exact ⟨t, h1.below hb, h2, h3⟩
theorem PW.rises {w : World} {b : Nat} {ps : List Pr} (h : PW w b ps) : RisesL ps := by
  obtain ⟨t, h1, rfl, -⟩ := h
  exact prs_rises h1.can
theorem PW.keys {w : World} {b : Nat} {ps : List Pr} (h : PW w b ps) : ∀ p ∈ ps, p.1.size ≤ 40 := fun p hp => by
  obtain ⟨t, h1, rfl, -⟩ := h
  have := h1.shr _ (prs_mem.1 hp)
  have e : p.1.size = (key p).length := by show p.1.data.size = p.1.data.toList.length; exact Array.length_toList.symm
  simp only at this
  omega
theorem get_list {w : World} {b : Nat} {ps : List Pr} (h : PW w b ps) (k : ByteArray) (hk : k.size ≤ 1000) :
    Calls Try.prog 22 #[at0 b, .string k] w fun e w' => e = .returned (.tuple #[.string ((getR ps k).getD ⟨#[]⟩), .bool (getR ps k).isSome]) ∧ Below w.heap.size w w' := by
  obtain ⟨t, h1, rfl, -⟩ := h
  refine (get_any (fun _ => True) b t k w h1.rad h1.can (h1.shr.more (by omega)) hk).mono ?_
  rintro e w' ⟨o, rfl, ho, hB⟩
  have : o = getR (prs t) k := by
    apply Option.ext
    intro v
    rw [ho, getR_prs h1.can]
  subst this
  exact ⟨rfl, hB⟩
theorem put_list {w : World} {b : Nat} {ps : List Pr} (h : PW w b ps) (tv : Value) (k v : ByteArray) (hd : DeadT w.heap.size w tv) (hk : k.size ≤ 40) (hv : v.size ≤ 40) :
    Calls Try.prog 20 #[tv, at0 b, .agg #[.string k, .string v]] w fun e w' => ∃ b', e = .returned (.tuple #[at0 b', .bool (getR ps k).isNone]) ∧ (getR ps k = some v → b' = b) ∧ PW w' b' (putK ps (k, v)) ∧ Below w.heap.size w w' := by
  obtain ⟨t, h1, rfl, h3⟩ := h
  refine (put_tree b t tv k v w hd h1 hk).mono ?_
  rintro e w' ⟨b', u, new, rfl, hnew, hsame, hT, hins, hB⟩
  have hp : prs u = putK (prs t) (k, v) := prs_put (p := (k, v)) h1.can hT.can hins
  have hn : new = (getR (prs t) k).isNone := by
    cases hg : getR (prs t) k with
    | none =>
      cases new with
      | true => rfl
      | false => obtain ⟨v', hm⟩ := hnew.1 rfl; rw [(getR_prs h1.can).2 hm] at hg; cases hg
    | some v' => rw [hnew.2 ⟨v', (getR_prs h1.can).1 hg⟩]; rfl
  subst hn
  refine ⟨b', rfl, fun hg => hsame ((getR_prs h1.can).1 hg), ⟨u, hT, hp, fun p hpm => ?_⟩, hB⟩
  rw [← hp] at hpm
  rcases (hins _).1 (prs_mem.1 hpm) with e | ⟨hm, -⟩
  · have : p.2 = v := congrArg Prod.snd e
    rw [this]; exact hv
  · exact h3 p (prs_mem.2 hm)
theorem drop_list {w : World} {b : Nat} {ps : List Pr} (h : PW w b ps) (tv : Value) (k : ByteArray) (hd : DeadT w.heap.size w tv) (hk : k.size ≤ 40) :
    Calls Try.prog 18 #[tv, at0 b, .string k] w fun e w' => ∃ b', e = .returned (.tuple #[at0 b', .bool (getR ps k).isSome]) ∧ (getR ps k = none → b' = b) ∧ PW w' b' (dropK ps k) ∧ Below w.heap.size w w' := by
  obtain ⟨t, h1, rfl, h3⟩ := h
  refine (drop_tree b t tv k w hd h1 hk).mono ?_
  rintro e w' ⟨b', u, found, rfl, hfound, hsame, hT, hdel, hB⟩
  have hp : prs u = dropK (prs t) k := prs_drop h1.can hT.can hdel
  have hn : found = (getR (prs t) k).isSome := by
    cases hg : getR (prs t) k with
    | none =>
      cases found with
      | false => rfl
      | true => obtain ⟨v', hm⟩ := hfound.1 rfl; rw [(getR_prs h1.can).2 hm] at hg; cases hg
    | some v' => rw [hfound.2 ⟨v', (getR_prs h1.can).1 hg⟩]; rfl
  subst hn
  refine ⟨b', rfl, fun hg => hsame (by rw [hg]; rfl), ⟨u, hT, hp, fun p hpm => ?_⟩, hB⟩
  rw [← hp] at hpm
  exact h3 p (prs_mem.2 ((hdel _).1 (prs_mem.1 hpm)).1)
theorem tree_list {w : World} {b : Nat} {ps : List Pr} (h : PW w b ps) (A : Option Addr) (c : Nat) (hn : ps.length ≤ 1000) (hR : Rd w A ps) (hc : ps.length ≤ c) :
    Calls Try.prog 23 #[at0 b, .slice A ps.length c] w fun e w' => e = .returned (.bool true) ∧ Below w.heap.size w w' := by
  obtain ⟨t, h1, rfl, h3⟩ := h
  exact h1.tree_any (fun x hx => h3 _ (List.mem_map_of_mem hx)) hn A c hR hc
theorem PW.empty {w : World} {b : Nat} (h : TreeW w b nilR) : PW w b [] := ⟨nilR, h, rfl, fun p hp => by simp at hp⟩
end Go.Proofs.Ytchimfgbdfmegaa
/- Lists of acts, of strings and of bytes that were handed in. -/
namespace Go.Proofs.Ytchimfgbdfmegaa
open Go.ChangeShapes Go.WideShapes Go.RowKit Go.Lib Go.Deep
set_option linter.unusedVariables false
set_option linter.unnecessarySimpa false
set_option linter.unusedSimpArgs false
set_option linter.unnecessarySimpa false
set_option maxRecDepth 100000
/-- an act's cells behind an address -/
def ActAt (w : World) (x : Addr) : Prop := ∃ (dd ka : Nat) (q : Pr), dd < 256 ∧ ka < 256 ∧ ∀ (k : Nat) (u : Value), [Value.int .u8 dd, .string q.1, .string q.2, .int .u8 ka][k]? = some u → w.cell? (x.add k) = some u
def ArgA (w : World) (a : Option Addr) (len cap : Nat) : Prop :=
  (a = none ∧ len = 0 ∧ cap = 0) ∨ ∃ x, a = some x ∧ len ≤ cap ∧ cap ≤ maxLen ∧ ∀ j, j < len → ActAt w (x.add (j * 4))
theorem ActAt.below {w w' : World} {x : Addr} (h : ActAt w x) (hb : Below w.heap.size w w') : ActAt w' x := by
  obtain ⟨dd, ka, q, h1, h2, hc⟩ := h
  exact ⟨dd, ka, q, h1, h2, fun k u hk => (hb.cell (World.block_lt_of_cell? w _ (hc k u hk))).trans (hc k u hk)⟩
theorem ArgA.below {w w' : World} {a : Option Addr} {len cap : Nat} (h : ArgA w a len cap) (hb : Below w.heap.size w w') : ArgA w' a len cap := by
  rcases h with h | ⟨x, rfl, h1, h2, h3⟩
  · exact .inl h
  · exact .inr ⟨x, rfl, h1, h2, fun j hj => (h3 j hj).below hb⟩
theorem ArgA.len_le {w : World} {a : Option Addr} {len cap : Nat} (h : ArgA w a len cap) : len ≤ maxLen := by
  rcases h with ⟨_, h, _⟩ | ⟨x, rfl, hl, hm, _⟩
  · omega
  · omega
/-- the act at a place, as the walk spells its cells -/
theorem ArgA.at {w wr : World} {a : Option Addr} {len cap : Nat} (h : ArgA w a len cap) (hB : Below w.heap.size w wr) (j : Nat) (hj : j < len) :
    ∃ (x : Addr) (dd ka : Nat) (q : Pr), a = some x ∧ dd < 256 ∧ ka < 256 ∧ wr.cell? (x.add (j * 4)) = some (.int .u8 dd) ∧ wr.cell? ⟨(x.add (j * 4)).block, (x.add (j * 4)).off + 1, none⟩ = some (.string q.1) ∧ wr.cell? ⟨(x.add (j * 4)).block, (x.add (j * 4)).off + 2, none⟩ = some (.string q.2) ∧ wr.cell? ⟨(x.add (j * 4)).block, (x.add (j * 4)).off + 3, none⟩ = some (.int .u8 ka) := by
  rcases h with ⟨_, h, _⟩ | ⟨x, rfl, hl, hm, hA⟩
  · omega
  · obtain ⟨dd, ka, q, h1, h2, hc⟩ := (hA j hj).below hB
    exact ⟨x, dd, ka, q, rfl, h1, h2, hc 0 _ rfl, hc 1 _ rfl, hc 2 _ rfl, hc 3 _ rfl⟩
theorem u8_nat {n : Int} (h : (Lit.int .u8 n).wf = true) : ∃ m : Nat, n = m ∧ m < 256 := by
  simp [Lit.wf, IntKind.min, IntKind.max, IntKind.signed, IntKind.bits] at h
  exact ⟨n.toNat, by omega, by omega⟩
theorem fields36 : ∃ f0 f1 f2, Try.prog.underlying 36 = some (.struct #[f0, f1, f2]) ∧ (f0.offset = 0 ∧ f1.offset = 1 ∧ f2.offset = 3) ∧ f0.type = 5 ∧ f1.type = 34 ∧ f2.type = 5 := ⟨_, _, _, Try.underlying36, ⟨rfl, rfl, rfl⟩, rfl, rfl, rfl⟩
theorem cellsOf36 : Try.prog.cellsOf 36 = 4 := by kernel_rfl
theorem cellsOf5 : Try.prog.cellsOf 5 = 1 := by kernel_rfl
theorem cellsOf34 : Try.prog.cellsOf 34 = 2 := by kernel_rfl
theorem cellsOf9 : Try.prog.cellsOf 9 = 1 := by kernel_rfl
theorem list2 {α : Type} (l : List α) (h : l.length = 2) : ∃ a b, l = [a, b] := by
  rcases l with _ | ⟨a, _ | ⟨b, _ | ⟨c, l⟩⟩⟩ <;> first | (exact ⟨_, _, rfl⟩) | (simp at h)
theorem list4 {α : Type} (l : List α) (h : l.length = 4) : ∃ a b c d, l = [a, b, c, d] := by
  rcases l with _ | ⟨a, _ | ⟨b, _ | ⟨c, _ | ⟨d, _ | ⟨e, l⟩⟩⟩⟩⟩ <;> first | (exact ⟨_, _, _, _, rfl⟩) | (simp at h)
theorem list3 {α : Type} (l : List α) (h : l.length = 3) : ∃ a b c, l = [a, b, c] := by
  rcases l with _ | ⟨a, _ | ⟨b, _ | ⟨c, _ | ⟨d, l⟩⟩⟩⟩ <;> first | (exact ⟨_, _, _, rfl⟩) | (simp at h)
theorem open_acts {H : Type} {enc : TypeId × Value → H} {W : World} {base : Nat} {spare : Nat → Bool} {held : Bool} {a : Option Addr} {len cap : Nat} {d : DataW H} {p : List MemPlace}
    (h : DataW.Trod enc Try.prog W base spare held 28 (.slice a len cap) d p) : ArgA W a len cap := by
  obtain ⟨fuel, hf⟩ := h
  rcases open_slice Try.underlying28 hf with ⟨hcs, _⟩ | ⟨x, l, c, m, n, D, Pl, hcs, _, hl, hm, hmm, _, hx⟩
  · simp [Value.cells] at hcs
    obtain ⟨rfl, rfl, rfl⟩ := hcs
    exact .inl ⟨rfl, rfl, rfl⟩
  · simp [Value.cells] at hcs
    obtain ⟨rfl, rfl, rfl⟩ := hcs
    have hlm : len ≤ m := by rw [hmm]; split <;> omega
    refine .inr ⟨x, rfl, hl, hm, fun j hj => ?_⟩
    obtain ⟨cs', h1, h2⟩ := hx j (by omega)
    rw [cellsOf36] at h1
    obtain ⟨_, hlen, hcell⟩ := World.cells?_some h1
    obtain ⟨f0, f1, f2, hu, ⟨o0, o1, o2⟩, t0, t1, t2⟩ := fields36
    obtain ⟨xs, k, hk, hxy, _, hxl, hff⟩ := DataW.trod_struct hu h2
    obtain ⟨y0, y1, y2, rfl⟩ := list3 xs hxl
    obtain ⟨v0, v1, v2, v3, rfl⟩ := list4 cs' hlen
    have g0 := hff 0 f0 rfl
    have g1 := hff 1 f1 rfl
    have g2 := hff 2 f2 rfl
    simp [o0, o1, o2, t0, t1, t2, cellsOf5, cellsOf34] at g0 g1 g2
    obtain ⟨n0, e0, _, b0⟩ := DataW.trod_int Try.underlying5 g0
    obtain ⟨n2, e2, _, b2⟩ := DataW.trod_int Try.underlying5 g2
    obtain ⟨F0, F1, hu2, p0, p1, s0, s1⟩ := fields33
    obtain ⟨ys, k2, _, _, _, hyl, hgg⟩ := DataW.trod_struct hu2 g1
    obtain ⟨z0, z1, rfl⟩ := list2 ys hyl
    have q0 := hgg 0 F0 rfl
    have q1 := hgg 1 F1 rfl
    simp [p0, p1, s0, s1, cellsOf9] at q0 q1
    obtain ⟨S0, E0, _, B0⟩ := DataW.trod_string Try.underlying9 q0
    obtain ⟨S1, E1, _, B1⟩ := DataW.trod_string Try.underlying9 q1
    obtain ⟨m0, rfl, l0⟩ := u8_nat b0
    obtain ⟨m2, rfl, l2⟩ := u8_nat b2
    simp at e0 e2 E0 E1
    refine ⟨m0, m2, (S0, S1), l0, l2, fun kk u hu => ?_⟩
    subst e0 e2 E0 E1
    have hkk := (List.getElem?_eq_some_iff.1 hu).1
    have := hcell kk (by simpa using hkk)
    rw [this]
    exact hu
/-- strings that were handed in -/
def ArgS (w : World) (a : Option Addr) (len cap : Nat) (ss : List ByteArray) : Prop :=
  (a = none ∧ len = 0 ∧ cap = 0 ∧ ss = []) ∨
  ∃ x, a = some x ∧ ss.length = len ∧ len ≤ cap ∧ cap ≤ maxLen ∧ (∀ j u, ss[j]? = some u → w.cell? (x.add j) = some (.string u)) ∧ ∀ s ∈ ss, s.size ≤ maxLen
theorem open_strs {H : Type} {enc : TypeId × Value → H} {W : World} {base : Nat} {spare : Nat → Bool} {held : Bool} {a : Option Addr} {len cap : Nat} {d : DataW H} {p : List MemPlace}
    (h : DataW.Trod enc Try.prog W base spare held 29 (.slice a len cap) d p) : ∃ ss, ArgS W a len cap ss := by
  obtain ⟨fuel, hf⟩ := h
  rcases open_strings Try.underlying29 Try.underlying9 (by kernel_rfl) hf with ⟨hcs, _⟩ | ⟨x, l, c, zs, hcs, _, hl, hm, hz, _, hcell, hwz⟩
  · simp [Value.cells] at hcs
    obtain ⟨rfl, rfl, rfl⟩ := hcs
    exact ⟨[], .inl ⟨rfl, rfl, rfl, rfl⟩⟩
  · simp [Value.cells] at hcs
    obtain ⟨rfl, rfl, rfl⟩ := hcs
    have hz' : len ≤ zs.length := by rw [hz]; split <;> omega
    refine ⟨zs.take len, .inr ⟨_, rfl, by rw [List.length_take]; omega, hl, hm, fun j u hj => ?_, fun s hs => hwz s (List.mem_of_mem_take hs)⟩⟩
    rw [List.getElem?_take] at hj
    split at hj
    · obtain ⟨hjl, he⟩ := List.getElem?_eq_some_iff.1 hj
      rw [hcell j hjl, List.getD_eq_getElem?_getD, hj]; rfl
    · cases hj
theorem ArgS.at {w wr : World} {a : Option Addr} {len cap : Nat} {ss : List ByteArray} (h : ArgS w a len cap ss) (hB : Below w.heap.size w wr) (j : Nat) (hj : j < len) : ∃ (x : Addr) (s : ByteArray), a = some x ∧ wr.cell? (x.add j) = some (.string s) := by
  rcases h with ⟨_, h, _⟩ | ⟨x, rfl, hl, _, _, hc, _⟩
  · omega
  · have := hc j ss[j] (List.getElem?_eq_getElem (by omega))
    exact ⟨x, _, rfl, (hB.cell (World.block_lt_of_cell? w _ this)).trans this⟩
theorem ArgS.len_le {w : World} {a : Option Addr} {len cap : Nat} {ss : List ByteArray} (h : ArgS w a len cap ss) : len ≤ maxLen := by
  rcases h with ⟨_, h, _⟩ | ⟨x, rfl, _, hl, hm, _⟩
  · omega
  · omega
end Go.Proofs.Ytchimfgbdfmegaa
