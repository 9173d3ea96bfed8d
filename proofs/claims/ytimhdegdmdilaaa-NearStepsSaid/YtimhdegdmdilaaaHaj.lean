/- The reference's Find; what stands around a key in a rising list. -/
import Derived.Test.YtimhdegdmdilaaaHad
import Derived.Test.YtimhdegdmdilaaaHai
import Derived.Test.YtimhdegdmdilaaaHaf
import Derived.Test.YtimhdegdmdilaaaHae
import Derived.Test.YtimhdegdmdilaaaHab
import Derived.Laws.ResultCell
import Derived.Laws.Rows
namespace Go.Proofs.Ytimhdegdmdilaaa
open Go.RowKit Go.Lib
set_option linter.unusedVariables false
set_option maxRecDepth 100000
set_option maxRecDepth 100000
set_option linter.unusedSimpArgs false
set_option linter.unnecessarySimpa false
set_option maxRecDepth 100000 in
set_option maxHeartbeats 8000000 in
theorem refFind_any (A : Option Addr) (c : Nat) (xs : List Pr) (k : ByteArray) (w : World) (hR : Rd w A xs) (hn : xs.length ≤ 1000) (hz : Sized xs) (hk : k.size ≤ maxLen) :
    Calls Try.prog 69 #[.slice A xs.length c, .string k] w fun e w' => e = .returned (.tuple #[.int .i64 (posK xs k), .bool (isK xs k)]) ∧ ∃ n, w' = w.drewN n := by
  obtain ⟨N, hN⟩ : ∃ N, N = xs.length := ⟨_, rfl⟩
  obtain ⟨P, hP⟩ : ∃ P, P = posK xs k := ⟨_, rfl⟩
  have hPN : P ≤ N := by rw [hP, hN]; exact posK_le _ _
  rw [← hN] at hn ⊢
  rw [← hP]
  have HN := Lib.hid hN
  have HP := Lib.hid hP
  have HR := Lib.hid hR
  have HZ := Lib.hid hz
  have HK := Lib.hid hk
  clear hN hP hR hz hk
  go_enter Try.func69, Try.ntmps69
  go_wp2_with fail
  go_loopw [6] (fun vi wr => ∃ (i : Nat), vi = .int .i64 i ∧ i ≤ P ∧ ∃ q, wr = w.drewN q) (fun vi wr => N - (intOf vi).toNat)
  case atStart => exact ⟨0, rfl, Nat.zero_le _, 0, rfl⟩
  case round =>
    obtain ⟨i, rfl, hi, q, rfl⟩ := hrel
    have hRd := HR.out.drewN q
    have hdd : ∀ z, (w.drewN q).drewN z = w.drewN (q + z) := fun z => by simp [World.drewN, Nat.add_assoc]
    have HDD := Lib.hid hdd
    clear hdd
    generalize hW : w.drewN q = W at *
    have HW := Lib.hid hW
    clear hW
    by_cases hlt : i < N
    · obtain ⟨g, off, rfl, c0, c1⟩ := hRd.at i (by have := HN.out; omega)
      have B2 : (i : Int) < (N : Int) := by omega
      have E3 : IntKind.i64.wrap ((i : Int) + 1) = ((i + 1 : Nat) : Int) := by rw [IntWalk.i64_in _ (by omega)]; omega
      clear hRd
      have hl := fun W => less_any (pat xs i).1 k W (HZ.out i) HK.out
      cases hv : ltB (pat xs i).1 k with
      | true =>
        have S : i + 1 ≤ P := by
          rcases Nat.lt_or_ge i P with q | q
          · exact q
          · obtain rfl : i = P := by omega
            have h1 := (ltB_iff _ _).1 hv
            rw [HP.out] at h1
            exact absurd h1 (posK_not xs k (by rw [← HP.out, ← HN.out]; exact hlt))
        rw [hv] at hl
        go_wp2_with fail
        refine (hl _).mono ?_
        rintro e w1 ⟨rfl, n1, rfl⟩
        go_wp2_with fail
        exact ⟨⟨i + 1, by go_num, S, _, HDD.out n1⟩, by simp [intOf]; omega⟩
      | false =>
        obtain rfl : i = P := by
          rcases Nat.lt_or_ge i P with q | q
          · have h1 := (ltB_iff _ _).2 (posK_lt xs k i (by rw [← HP.out]; exact q))
            rw [hv] at h1; cases h1
          · omega
        rw [hv] at hl
        have HI := Lib.hid (isK_bytes xs k (by rw [← HP.out, ← HN.out]; exact hlt))
        go_wp2_with fail
        refine (hl _).mono ?_
        rintro e w1 ⟨rfl, n1, rfl⟩
        have c0' : (W.drewN n1).cell? ⟨g, off + i * 2, none⟩ = some (.string (pat xs i).1) := c0
        have hdw : W.drewN n1 = w.drewN (q + n1) := HDD.out n1
        have HDW := Lib.hid hdw
        clear c0 c1 hdw HDD
        generalize W.drewN n1 = W1 at *
        go_wp2_with fail
        go_quiet (fail)
        go_wp2_with fail
        go_ret2
        have e1 := HI.out
        rw [← HP.out] at e1
        rw [e1]
        refine ⟨rfl, q + n1 + nq, ?_⟩
        rw [HDW.out]; simp [World.drewN, Nat.add_assoc]
    · obtain rfl : i = P := by omega
      have HI := Lib.hid (isK_end xs k (by rw [← HP.out, ← HN.out]; exact hlt))
      have B2 : decide ((i : Int) < (N : Int)) = false := by rw [decide_eq_false_iff_not]; omega
      go_wp2_with fail
      go_quiet (fail)
      go_wp2_with fail
      go_ret2
      rw [HI.out]
      exact ⟨rfl, _, HDD.out nq⟩
/-- those less than a key -/
def lessK (xs : List Pr) (k : ByteArray) : List Pr := xs.take (posK xs k)
/-- those greater -/
def moreK (xs : List Pr) (k : ByteArray) : List Pr := xs.drop (posK xs k + if isK xs k = true then 1 else 0)
theorem Rd.take {w : World} {A : Option Addr} {xs : List Pr} (h : Rd w A xs) (n : Nat) : Rd w A (xs.take n) := fun j p hj => by
  rw [List.getElem?_take] at hj
  split at hj
  · exact h j p hj
  · cases hj
theorem Rd.drop {w : World} {g off : Nat} {xs : List Pr} (h : Rd w (some ⟨g, off, none⟩) xs) (n : Nat) : Rd w (some ⟨g, off + n * 2, none⟩) (xs.drop n) := fun j p hj => by
  rw [List.getElem?_drop] at hj
  obtain ⟨g', off', e, h1, h2⟩ := h (n + j) p hj
  simp at e
  obtain ⟨rfl, rfl⟩ := e
  refine ⟨_, _, rfl, ?_, ?_⟩
  · rw [show off + n * 2 + j * 2 = off + (n + j) * 2 by omega]; exact h1
  · rw [show off + n * 2 + j * 2 + 1 = off + (n + j) * 2 + 1 by omega]; exact h2
/-- what is told of those around a key -/
def AroundPost (xs : List Pr) (k : ByteArray) (w : World) (e : Ending) (w' : World) : Prop :=
  ∃ A1 c1 A2 c2, e = .returned (.tuple #[.slice A1 (lessK xs k).length c1, .slice A2 (moreK xs k).length c2]) ∧ Rd w' A1 (lessK xs k) ∧ Rd w' A2 (moreK xs k) ∧ (A1 = none → c1 = 0) ∧ (A2 = none → c2 = 0) ∧ Below w.heap.size w w'
theorem around_end {A : Option Addr} {c P Q : Nat} {xs : List Pr} {k : ByteArray} {w w' : World} (hR : Rd w' A xs) (hB : Below w.heap.size w w') (hP : P = posK xs k) (hQ : Q = posK xs k + if isK xs k = true then 1 else 0) (hPN : P ≤ xs.length) (hc : xs.length ≤ c) (h00 : A = none → c = 0) (n : Nat) (A2 : Option Addr) (hA2 : A2 = if c = Q then A else A.map (·.add (Q * 2))) :
    AroundPost xs k w (.returned (.tuple #[.slice A P c, .slice A2 (xs.length - Q) (c - Q)])) (w'.drewN n) := by
  have e1 : (lessK xs k).length = P := by unfold lessK; rw [List.length_take, ← hP]; omega
  have e2 : (moreK xs k).length = xs.length - Q := by unfold moreK; rw [List.length_drop, ← hQ]
  refine ⟨A, c, A2, c - Q, by rw [e1, e2], (hR.take _).drewN n, ?_, h00, (fun hn => by
    subst hA2
    split at hn
    · rw [h00 hn]; simp
    · rw [h00 (by simpa using hn)]; simp), ⟨hB.os, hB.tape, hB.output, hB.size, hB.block⟩⟩
  refine Rd.drewN (w := w') ?_ n
  unfold moreK
  rw [← hQ]
  by_cases h0 : xs.length ≤ Q
  · rw [List.drop_eq_nil_of_le h0]
    intro j p hj
    simp at hj
  · obtain ⟨g, off, rfl⟩ := hR.starts (by omega)
    rw [if_neg (by omega)] at hA2
    rw [hA2, Option.map_some, addr_add]
    exact hR.drop Q
end Go.Proofs.Ytimhdegdmdilaaa
/- The calls of radix in words of lists of pairs. -/
namespace Go.Proofs.Ytimhdegdmdilaaa
open Go.RowKit Go.Lib
set_option linter.unusedVariables false
set_option maxRecDepth 100000
set_option linter.unnecessarySimpa false
set_option linter.unusedSimpArgs false
set_option linter.unnecessarySimpa false
set_option maxRecDepth 100000
theorem isK_ltR {xs : List Pr} {k : ByteArray} (h : isK xs k = true) : posK xs k < xs.length := by unfold isK at h; exact (of_decide_eq_true h).1
theorem isK_memR {xs : List Pr} {k v : ByteArray} (hr : RisesL xs) (h : (k, v) ∈ xs) : isK xs k = true := by
  obtain ⟨j, hj, he⟩ := List.mem_iff_getElem.1 h
  have hp : pat xs j = (k, v) := by
    have := pat_get hj
    rw [List.getElem?_eq_getElem hj, he] at this
    exact (Option.some.inj this).symm
  have h1 : posK xs k ≤ j := by
    rcases Nat.lt_or_ge j (posK xs k) with hlt | hge
    · have h2 := posK_lt xs k j hlt
      rw [hp] at h2
      exact absurd rfl h2.ne
    · exact hge
  have hl : posK xs k < xs.length := by omega
  unfold isK
  rw [decide_eq_true_eq]
  refine ⟨hl, ?_⟩
  rcases Nat.lt_or_ge (posK xs k) j with hlt | hge
  · have h2 := rises_at hr hlt hj
    rw [hp] at h2
    exact absurd h2 (posK_not xs k hl)
  · rw [show posK xs k = j by omega, hp]
/-- a key's value in a list -/
def getR (xs : List Pr) (k : ByteArray) : Option ByteArray := if isK xs k = true then some (pat xs (posK xs k)).2 else none
theorem getR_mem {xs : List Pr} {k v : ByteArray} (h : getR xs k = some v) : (k, v) ∈ xs := by
  unfold getR at h
  split at h
  · rename_i hk
    have hl := isK_ltR hk
    have hm := List.mem_of_getElem? (pat_get hl)
    have e : (pat xs (posK xs k)).1 = k := by unfold isK at hk; exact (of_decide_eq_true hk).2
    have e2 : (pat xs (posK xs k)).2 = v := Option.some.inj h
    rw [← e, ← e2]; exact hm
  · cases h
theorem getR_none {xs : List Pr} {k : ByteArray} (hr : RisesL xs) (h : getR xs k = none) (v : ByteArray) : (k, v) ∉ xs := fun hm => by
  unfold getR at h
  rw [if_pos (isK_memR hr hm)] at h
  cases h
theorem prs_one {t : RX} (h : Can t) {k v v' : ByteArray} (h1 : (k, v) ∈ prs t) (h2 : (k, v') ∈ prs t) : v = v' := can_one h (prs_mem.1 h1) (prs_mem.1 h2)
theorem getR_prs {t : RX} (h : Can t) {k v : ByteArray} : getR (prs t) k = some v ↔ (k.data.toList, v) ∈ body t := by
  constructor
  · intro hg; exact prs_mem.1 (getR_mem hg)
  · intro hm
    have hp : (k, v) ∈ prs t := prs_mem.2 hm
    cases hg : getR (prs t) k with
    | none => exact absurd hp (getR_none (prs_rises h) hg v)
    | some v' => rw [prs_one h (getR_mem hg) hp]
set_option maxHeartbeats 1000000 in
theorem refGetR_any (A : Option Addr) (c : Nat) (xs : List Pr) (k : ByteArray) (w : World) (hR : Rd w A xs) (hn : xs.length ≤ 1000) (hz : Sized xs) (hk : k.size ≤ maxLen) :
    Calls Try.prog 34 #[.slice A xs.length c, .string k] w fun e w' => e = .returned (.tuple #[.string ((getR xs k).getD ⟨#[]⟩), .bool (getR xs k).isSome]) ∧ Below w.heap.size w w' := by
  have kf := refFind_any A c xs k w hR hn hz hk
  unfold getR
  cases hik : isK xs k with
  | true =>
    rw [hik] at kf
    rw [if_pos rfl]
    have hl := isK_ltR hik
    obtain ⟨g, off, rfl, c0, c1⟩ := hR _ _ (pat_get hl)
    have B1 : ((posK xs k : Nat) : Int) < (xs.length : Int) := by omega
    clear hik hR
    generalize posK xs k = P at *
    go_enter Try.func34, Try.ntmps34
    go_wp2_with fail
    refine kf.mono ?_
    rintro e w1 ⟨rfl, q, rfl⟩
    have d1 : (w.drewN q).cell? ⟨g, off + P * 2 + 1, none⟩ = some (.string (pat xs P).2) := c1
    have hB : Below w.heap.size w (w.drewN q) := ⟨rfl, rfl, rfl, Nat.le_refl _, fun _ _ => rfl⟩
    clear kf c0 c1
    generalize w.drewN q = W at *
    go_wp2_with fail
    go_ret2
    exact ⟨rfl, hB⟩
  | false =>
    rw [hik] at kf
    rw [if_neg (by simp)]
    clear hik hR
    generalize posK xs k = P at *
    go_enter Try.func34, Try.ntmps34
    go_wp2_with fail
    refine kf.mono ?_
    rintro e w1 ⟨rfl, q, rfl⟩
    have hB : Below w.heap.size w (w.drewN q) := ⟨rfl, rfl, rfl, Nat.le_refl _, fun _ _ => rfl⟩
    generalize w.drewN q = W at *
    go_wp2_with fail
    go_ret2
    exact ⟨rfl, hB⟩
/-- a tree of these pairs -/
def PW (w : World) (b : Nat) (ps : List Pr) : Prop := ∃ t, TreeW w b t ∧ prs t = ps ∧ ∀ p ∈ ps, p.2.size ≤ 40
theorem PW.below {w w' : World} {b : Nat} {ps : List Pr} (h : PW w b ps) (hb : Below w.heap.size w w') : PW w' b ps := by
  obtain ⟨t, h1, h2, h3⟩ := h
  exact ⟨t, h1.below hb, h2, h3⟩
theorem PW.rises {w : World} {b : Nat} {ps : List Pr} (h : PW w b ps) : RisesL ps := by
  obtain ⟨t, h1, rfl, -⟩ := h
  exact prs_rises h1.can
theorem PW.keys {w : World} {b : Nat} {ps : List Pr} (h : PW w b ps) : ∀ p ∈ ps, p.1.size ≤ 40 := fun p hp => by
  obtain ⟨t, h1, rfl, -⟩ := h
  have := h1.shr _ (prs_mem.1 hp)
  have e : p.1.size = (key p).length := by show p.1.data.size = p.1.data.toList.length; exact Array.length_toList.symm
  simp only at this
  omega
theorem get_list {w : World} {b : Nat} {ps : List Pr} (h : PW w b ps) (k : ByteArray) (hk : k.size ≤ 1000) :
    Calls Try.prog 68 #[at0 b, .string k] w fun e w' => e = .returned (.tuple #[.string ((getR ps k).getD ⟨#[]⟩), .bool (getR ps k).isSome]) ∧ Below w.heap.size w w' := by
  obtain ⟨t, h1, rfl, -⟩ := h
  refine (get_any (fun _ => True) b t k w h1.rad h1.can (h1.shr.more (by omega)) hk).mono ?_
  rintro e w' ⟨o, rfl, ho, hB⟩
  have : o = getR (prs t) k := by
    apply Option.ext
    intro v
    rw [ho, getR_prs h1.can]
  subst this
  exact ⟨rfl, hB⟩
theorem put_list {w : World} {b : Nat} {ps : List Pr} (h : PW w b ps) (tv : Value) (k v : ByteArray) (hd : DeadT w.heap.size w tv) (hk : k.size ≤ 40) (hv : v.size ≤ 40) :
    Calls Try.prog 53 #[tv, at0 b, .agg #[.string k, .string v]] w fun e w' => ∃ b', e = .returned (.tuple #[at0 b', .bool (getR ps k).isNone]) ∧ (getR ps k = some v → b' = b) ∧ PW w' b' (putK ps (k, v)) ∧ Below w.heap.size w w' := by
  obtain ⟨t, h1, rfl, h3⟩ := h
  refine (put_tree b t tv k v w hd h1 hk).mono ?_
  rintro e w' ⟨b', u, new, rfl, hnew, hsame, hT, hins, hB⟩
  have hp : prs u = putK (prs t) (k, v) := prs_put (p := (k, v)) h1.can hT.can hins
  have hn : new = (getR (prs t) k).isNone := by
    cases hg : getR (prs t) k with
    | none =>
      cases new with
      | true => rfl
      | false => obtain ⟨v', hm⟩ := hnew.1 rfl; rw [(getR_prs h1.can).2 hm] at hg; cases hg
    | some v' => rw [hnew.2 ⟨v', (getR_prs h1.can).1 hg⟩]; rfl
  subst hn
  refine ⟨b', rfl, fun hg => hsame ((getR_prs h1.can).1 hg), ⟨u, hT, hp, fun p hpm => ?_⟩, hB⟩
  rw [← hp] at hpm
  rcases (hins _).1 (prs_mem.1 hpm) with e | ⟨hm, -⟩
  · have : p.2 = v := congrArg Prod.snd e
    rw [this]; exact hv
  · exact h3 p (prs_mem.2 hm)
theorem drop_list {w : World} {b : Nat} {ps : List Pr} (h : PW w b ps) (tv : Value) (k : ByteArray) (hd : DeadT w.heap.size w tv) (hk : k.size ≤ 40) :
    Calls Try.prog 54 #[tv, at0 b, .string k] w fun e w' => ∃ b', e = .returned (.tuple #[at0 b', .bool (getR ps k).isSome]) ∧ (getR ps k = none → b' = b) ∧ PW w' b' (dropK ps k) ∧ Below w.heap.size w w' := by
  obtain ⟨t, h1, rfl, h3⟩ := h
  refine (drop_tree b t tv k w hd h1 hk).mono ?_
  rintro e w' ⟨b', u, found, rfl, hfound, hsame, hT, hdel, hB⟩
  have hp : prs u = dropK (prs t) k := prs_drop h1.can hT.can hdel
  have hn : found = (getR (prs t) k).isSome := by
    cases hg : getR (prs t) k with
    | none =>
      cases found with
      | false => rfl
      | true => obtain ⟨v', hm⟩ := hfound.1 rfl; rw [(getR_prs h1.can).2 hm] at hg; cases hg
    | some v' => rw [hfound.2 ⟨v', (getR_prs h1.can).1 hg⟩]; rfl
  subst hn
  refine ⟨b', rfl, fun hg => hsame (by rw [hg]; rfl), ⟨u, hT, hp, fun p hpm => ?_⟩, hB⟩
  rw [← hp] at hpm
  exact h3 p (prs_mem.2 ((hdel _).1 (prs_mem.1 hpm)).1)
theorem PW.empty {w : World} {b : Nat} (h : TreeW w b nilR) : PW w b [] := ⟨nilR, h, rfl, fun p hp => by simp at hp⟩
end Go.Proofs.Ytimhdegdmdilaaa
/- Trees that keep away from some blocks. -/
namespace Go.Proofs.Ytimhdegdmdilaaa
open Go.RowKit Go.Lib
set_option linter.unusedVariables false
set_option maxRecDepth 100000
set_option linter.unnecessarySimpa false
set_option linter.unusedSimpArgs false
set_option linter.unnecessarySimpa false
set_option maxRecDepth 100000
/-- a tree, all its blocks P -/
structure TreeX (P : Nat → Prop) (w : World) (b : Nat) (t : RX) : Prop where
  rad : RadW P w b t
  can : Can t
  shr : Shrt 40 t
  lab : t.lab = []
theorem TreeX.below {P : Nat → Prop} {w w' : World} {b : Nat} {t : RX} (h : TreeX P w b t) (hb : Below w.heap.size w w') : TreeX P w' b t := ⟨h.rad.stay hb, h.can, h.shr, h.lab⟩
/-- what Put answers -/
def PutResX (P : Nat → Prop) (b : Nat) (t : RX) (key value : ByteArray) (w : World) (e : Ending) (w' : World) : Prop :=
  ∃ (b' : Nat) (u : RX) (new : Bool), e = .returned (.tuple #[at0 b', .bool new]) ∧ (new = false ↔ ∃ v, (key.data.toList, v) ∈ body t) ∧ ((key.data.toList, value) ∈ body t → b' = b) ∧ TreeX P w' b' u ∧ InsX key.data.toList value t u ∧ Below w.heap.size w w'
set_option maxHeartbeats 2000000 in
theorem put_treeX (P : Nat → Prop) (b : Nat) (t : RX) (tv : Value) (key value : ByteArray) (w : World) (hd : DeadT w.heap.size w tv) (h : TreeX P w b t) (hP0 : ∀ y, w.heap.size ≤ y → P y) (hk : key.size ≤ 40) : Calls Try.prog 53 #[tv, at0 b, .agg #[.string key, .string value]] w (PutResX P b t key value w) := by
  have hB1 := (Below.refl _ w).alloc (Nat.le_refl _) (.cells #[.string key, .string value] 29)
  have hbx := Blk.new w 29 #[.string key, .string value]
  have hkg := get_any P b t key _ (h.rad.stay hB1) h.can (h.shr.more (by omega)) (by omega)
  have hd1 := hd.stay hB1
  obtain ⟨a, rfl⟩ := hd.form
  have p0 : (w.alloc (.cells #[.string key, .string value] 29)).cell? ⟨w.heap.size, 0, none⟩ = some (.string key) := hbx.cell 0
  have p1 : (w.alloc (.cells #[.string key, .string value] 29)).cell? ⟨w.heap.size, 1, none⟩ = some (.string value) := hbx.cell 1
  have HH := Lib.hid h
  have HD := Lib.hid hd
  clear h hd
  unfold at0 at hkg ⊢
  go_enter Try.func53, Try.ntmps53
  go_wp2_with fail
  refine hkg.mono ?_
  rintro e w1 ⟨o, rfl, ho, hB2⟩
  obtain ⟨N, hNe⟩ : ∃ N, N = w.heap.size := ⟨_, rfl⟩
  rw [← hNe] at hbx p0 p1 ⊢
  have hbx1 := hbx.stay hB2
  have q0 : w1.cell? ⟨N, 0, none⟩ = some (.string key) := hbx1.cell 0
  have q1 : w1.cell? ⟨N, 1, none⟩ = some (.string value) := hbx1.cell 1
  have hB12 := hB1.trans (hB2.mono hB1.size)
  have hd2 := hd1.stay hB2
  have HN := Lib.hid hNe
  have HO := Lib.hid ho
  have HB := Lib.hid hB12
  clear hkg p0 p1 hbx hd1 ho hNe hB1 hB2
  by_cases hsame : o = some value
  · subst hsame
    have hv : (value.toList == value.toList) = true := by simp
    go_wp2_with fail
    go_ret2
    have hm := (HO.out value).1 rfl
    refine ⟨b, t, false, rfl, ⟨fun _ => ⟨value, hm⟩, fun _ => rfl⟩, fun _ => rfl, HH.out.below HB.out, ins_same HH.out.can hm, HB.out⟩
  · have hnew : ∀ (V : ByteArray) (f : Bool), o.getD ⟨#[]⟩ = V → o.isSome = f → f = false ∨ (V.toList == value.toList) = false := by
      rintro V f rfl rfl
      cases o with
      | none => exact .inl rfl
      | some x =>
        right
        have hne : x ≠ value := fun e => hsame (by rw [e])
        have : x.toList ≠ value.toList := fun e => hne (bytes_ext (by rw [ByteArray.toList_eq, ByteArray.toList_eq] at e; exact e))
        simpa using this
    have hsome : ∀ f : Bool, o.isSome = f → (((!f) = false) ↔ ∃ v, (key.data.toList, v) ∈ body t) := by
      rintro f rfl
      cases o with
      | none => exact ⟨fun h => by simp at h, fun ⟨v, hv⟩ => by have := (HO.out v).2 hv; cases this⟩
      | some x => exact ⟨fun _ => ⟨x, (HO.out x).1 rfl⟩, fun _ => rfl⟩
    have hnot : ¬ (key.data.toList, value) ∈ body t := fun h => hsame ((HO.out value).2 h)
    obtain ⟨M, hMe⟩ : ∃ M, M = w1.heap.size := ⟨_, rfl⟩
    have hb104 : Blk (w1.alloc (.cells #[.pointer a] 126)) M 126 #[.pointer a] := by rw [hMe]; exact Blk.new w1 126 #[.pointer a]
    have hB2 : Below w1.heap.size w1 (w1.alloc (.cells #[.pointer a] 126)) := (Below.refl _ w1).alloc (Nat.le_refl _) _
    have HM := Lib.hid hMe
    have HNOT := Lib.hid hnot
    have HS := Lib.hid (hsome _ rfl)
    have hor := hnew _ _ rfl rfl
    generalize o.getD ⟨#[]⟩ = V at *
    generalize o.isSome = f at *
    have fin : ∀ (W : World) (e : Ending) (w' : World), Below w.heap.size w W → PutPost P W.heap.size false b t key.data.toList value W e w' → ∃ b' u, e = .returned (at0 b') ∧ TreeX P w' b' u ∧ InsX key.data.toList value t u ∧ Below W.heap.size W w' := by
      rintro W e w' hW ⟨b', u, rfl, -, hm, hcu, hlu, hiu, hBu⟩
      exact ⟨b', u, rfl, ⟨hm.rad (fun y hy => hP0 y (Nat.le_trans hW.size hy)), hcu, HH.out.shr.ins hiu (by rw [size_of]; exact hk), by rw [hlu]; exact HH.out.lab⟩, hiu, hBu⟩
    have hput : ∀ (W : World), Below w.heap.size w W → Calls Try.prog 83 #[.agg #[.pointer a], at0 b, .bool false, .string key, .string value] W fun e w' => ∃ b' u, e = .returned (at0 b') ∧ TreeX P w' b' u ∧ InsX key.data.toList value t u ∧ Below W.heap.size W w' := fun W hW =>
      (put_any key.size P W.heap.size b false t (.pointer a) key value W rfl ((HD.out.stay hW).up hW.size) (Nat.le_refl _) (.inr ⟨rfl, HH.out.rad.stay hW⟩) HH.out.can (fun y hy => hP0 y (Nat.le_trans hW.size hy)) (HH.out.shr.more (by omega)) (by omega)).mono fun e w' h => fin W e w' hW h
    have how : ∀ (W : World), Below w.heap.size w W → Calls Try.prog 85 #[at0 b, .pointer a] W fun e w' => e = .returned (.bool false) ∧ W = w' := fun W hW => owned_dead w.heap.size b (.pointer a) W (HD.out.stay hW)
    have HPUT := Lib.hid hput
    have HOW := Lib.hid how
    have hB13 := hB12.trans (hB2.mono hB12.size)
    have g0 : (w1.alloc (.cells #[.pointer a] 126)).cell? ⟨M, 0, none⟩ = some (.pointer a) := hb104.cell 0
    have g1 := (hB2.cell (World.block_lt_of_cell? w1 _ q0)).trans q0
    have g2 := (hB2.cell (World.block_lt_of_cell? w1 _ q1)).trans q1
    obtain ⟨W2, hW2⟩ : ∃ W2, W2 = w1.alloc (.cells #[.pointer a] 126) := ⟨_, rfl⟩
    rw [← hW2] at g0 g1 g2 hB13
    have HW2 := Lib.hid hW2
    have HB13 := Lib.hid hB13
    clear hnew hsome hnot hsame fin hput how hMe hB12 hB2 hbx1 hb104 hW2 hd2 HO
    rcases f with _ | _
    · clear hor
      go_wp2_with fail
      rw [← HM.out]
      rw [← HW2.out]
      go_wp2_with fail
      have hBd : Below w.heap.size w W2.drew := hB13.trans ((Below.refl _ W2).drew.mono hB13.size)
      go_region_held3 (fun w' : World => w'.cell? ⟨M, 0, none⟩ = some (.pointer a) ∧ w'.cell? ⟨N, 0, none⟩ = some (.string key) ∧ w'.cell? ⟨N, 1, none⟩ = some (.string value)) (first | exact ⟨g0, g1, g2⟩ | exact keepP3 (by assumption) hBu | go_keep) (first
        | (have _g := hOwn; clear _g; go_at_call 83; refine (HPUT.out _ hBd).mono ?_; rintro e w4 ⟨b', u, rfl, hTu, hiu, hBu⟩; unfold at0)
        | (go_at_call 85; refine (HOW.out _ hBd).mono ?_; rintro e w3 ⟨rfl, rfl⟩; have hOwn : True := trivial))
      go_wp2_with fail
      go_ret2
      exact ⟨b', u, _, rfl, HS.out, fun h => absurd h HNOT.out, hTu, hiu, hBd.trans (hBu.mono hBd.size)⟩
    · have hz : (V.toList == value.toList) = false := by
        rcases hor with h | h
        · cases h
        · exact h
      clear hor
      go_wp2_with fail
      rw [← HM.out]
      rw [← HW2.out]
      go_wp2_with fail
      have hBd : Below w.heap.size w W2.drew := hB13.trans ((Below.refl _ W2).drew.mono hB13.size)
      go_region_held3 (fun w' : World => w'.cell? ⟨M, 0, none⟩ = some (.pointer a) ∧ w'.cell? ⟨N, 0, none⟩ = some (.string key) ∧ w'.cell? ⟨N, 1, none⟩ = some (.string value)) (first | exact ⟨g0, g1, g2⟩ | exact keepP3 (by assumption) hBu | go_keep) (first
        | (have _g := hOwn; clear _g; go_at_call 83; refine (HPUT.out _ hBd).mono ?_; rintro e w4 ⟨b', u, rfl, hTu, hiu, hBu⟩; unfold at0)
        | (go_at_call 85; refine (HOW.out _ hBd).mono ?_; rintro e w3 ⟨rfl, rfl⟩; have hOwn : True := trivial))
      go_wp2_with fail
      go_ret2
      exact ⟨b', u, _, rfl, HS.out, fun h => absurd h HNOT.out, hTu, hiu, hBd.trans (hBu.mono hBd.size)⟩
/-- what Drop answers -/
def DropResX (P : Nat → Prop) (b : Nat) (t : RX) (key : ByteArray) (w : World) (e : Ending) (w' : World) : Prop :=
  ∃ (b' : Nat) (u : RX) (found : Bool), e = .returned (.tuple #[at0 b', .bool found]) ∧ (found = true ↔ ∃ v, (key.data.toList, v) ∈ body t) ∧ (found = false → b' = b) ∧ TreeX P w' b' u ∧ DelX key.data.toList t u ∧ Below w.heap.size w w'
set_option maxHeartbeats 2000000 in
theorem drop_treeX (P : Nat → Prop) (b : Nat) (t : RX) (tv : Value) (key : ByteArray) (w : World) (hd : DeadT w.heap.size w tv) (h : TreeX P w b t) (hP0 : ∀ y, w.heap.size ≤ y → P y) (hk : key.size ≤ 40) : Calls Try.prog 54 #[tv, at0 b, .string key] w (DropResX P b t key w) := by
  obtain ⟨a, rfl⟩ := hd.form
  have hB1 := (Below.refl _ w).alloc (Nat.le_refl _) (.cells #[.pointer a] 126)
  have hkg := get_any P b t key _ (h.rad.stay hB1) h.can (h.shr.more (by omega)) (by omega)
  have hb104 := Blk.new w 126 #[.pointer a]
  have HH := Lib.hid h
  have HD := Lib.hid hd
  clear h hd
  unfold at0 at hkg ⊢
  go_enter Try.func54, Try.ntmps54
  go_wp2_with fail
  refine hkg.mono ?_
  rintro e w1 ⟨o, rfl, ho, hB2⟩
  obtain ⟨M, hMe⟩ : ∃ M, M = w.heap.size := ⟨_, rfl⟩
  rw [← hMe] at hb104 ⊢
  have g0 : w1.cell? ⟨M, 0, none⟩ = some (.pointer a) := (hb104.stay hB2).cell 0
  have hB12 := hB1.trans (hB2.mono hB1.size)
  have hsome : ∀ f : Bool, o.isSome = f → (f = true ↔ ∃ v, (key.data.toList, v) ∈ body t) := by
    rintro f rfl
    cases o with
    | none => exact ⟨fun h => by simp at h, fun ⟨v, hv⟩ => by have := (ho v).2 hv; cases this⟩
    | some x => exact ⟨fun _ => ⟨x, (ho x).1 rfl⟩, fun _ => rfl⟩
  have HS := Lib.hid (hsome _ rfl)
  have HMM := Lib.hid hMe
  have HB := Lib.hid hB12
  generalize o.getD ⟨#[]⟩ = V at *
  generalize o.isSome = f at *
  clear hkg hMe hB1 hB2 hb104 ho hsome
  cases f with
  | false =>
    go_wp2_with fail
    go_ret2
    have hn : ¬ ∃ v, (key.data.toList, v) ∈ body t := fun h => by have := HS.out.2 h; cases this
    exact ⟨b, t, false, rfl, HS.out, fun _ => rfl, HH.out.below HB.out, del_same hn, HB.out⟩
  | true =>
    have hdrop : ∀ (W : World), Below w.heap.size w W → Calls Try.prog 86 #[.agg #[.pointer a], at0 b, .bool false, .string key] W fun e w' => ∃ b' u, e = .returned (at0 b') ∧ TreeX P w' b' u ∧ DelX key.data.toList t u ∧ Below W.heap.size W w' := fun W hW => by
      refine (drop_any key.size P W.heap.size b false t (.pointer a) key W rfl ((HD.out.stay hW).up hW.size) (Nat.le_refl _) (.inr ⟨rfl, HH.out.rad.stay hW⟩) HH.out.can (fun y hy => hP0 y (Nat.le_trans hW.size hy)) (HH.out.shr.more (by omega)) (by omega) (HS.out.1 rfl)).mono ?_
      rintro e w' ⟨b', u, rfl, hm, hcu, hlu, hiu, hBu⟩
      exact ⟨b', u, rfl, ⟨hm.rad (fun y hy => hP0 y (Nat.le_trans hW.size hy)), hcu, HH.out.shr.del hiu, by rw [hlu]; exact HH.out.lab⟩, hiu, hBu⟩
    have how : ∀ (W : World), Below w.heap.size w W → Calls Try.prog 85 #[at0 b, .pointer a] W fun e w' => e = .returned (.bool false) ∧ W = w' := fun W hW => owned_dead w.heap.size b (.pointer a) W (HD.out.stay hW)
    have HPUT := Lib.hid hdrop
    have HOW := Lib.hid how
    have hBd : Below w.heap.size w w1.drew := hB12.trans ((Below.refl _ w1).drew.mono hB12.size)
    clear hdrop how hB12
    go_wp2_with fail
    go_region_held3 (fun w' : World => w'.cell? ⟨M, 0, none⟩ = some (.pointer a)) (first | exact g0 | exact keep1 (by assumption) hBu | go_keep) (first
      | (have _g := hOwn; clear _g; go_at_call 86; refine (HPUT.out _ hBd).mono ?_; rintro e w4 ⟨b', u, rfl, hTu, hiu, hBu⟩; unfold at0)
      | (go_at_call 85; refine (HOW.out _ hBd).mono ?_; rintro e w3 ⟨rfl, rfl⟩; have hOwn : True := trivial))
    go_wp2_with fail
    go_ret2
    exact ⟨b', u, true, rfl, by simpa using HS.out, fun h => (by cases h), hTu, hiu, hBd.trans (hBu.mono hBd.size)⟩
/-- the kinds of a tree's blocks -/
theorem RadW.ty {P : Nat → Prop} {w : World} {b : Nat} {t : RX} (h : RadW P w b t) : RadW (fun x => P x ∧ ∀ ty cs, Blk w x ty cs → ty = 132 ∨ ty = 24) w b t := by
  refine RadW.ind_ (Q := fun b t => RadW (fun x => P x ∧ ∀ ty cs, Blk w x ty cs → ty = 132 ∨ ty = 24) w b t) (fun b t kv bs h1 h2 h3 h4 ih => ?_) h
  refine .mk h1 ⟨h2, fun ty cs hB => ?_⟩ (fun g hg => ⟨h3 g hg, fun ty cs hB => ?_⟩) ih
  · obtain ⟨o, lab, val, sh, hB', -⟩ := h1.blk
    unfold Blk at hB hB'
    rw [hB'] at hB
    simp at hB
    exact .inl hB.2.symm
  · obtain ⟨cur, hc⟩ := own_cells h1.row g hg
    unfold Blk at hB
    rw [hc] at hB
    simp at hB
    exact .inr hB.2.symm
/-- a tree of these pairs that keeps away from X -/
def TX (X : Nat → Prop) (w : World) (b : Nat) (ps : List Pr) : Prop := ∃ t, TreeX (fun x => ¬ X x) w b t ∧ prs t = ps ∧ ∀ p ∈ ps, p.2.size ≤ 40
section
variable {X X' : Nat → Prop} {w w' : World} {b : Nat} {ps : List Pr}
theorem TX.below (h : TX X w b ps) (hb : Below w.heap.size w w') : TX X w' b ps := by
  obtain ⟨t, h1, h2, h3⟩ := h
  exact ⟨t, h1.below hb, h2, h3⟩
theorem TX.pw (h : TX X w b ps) : PW w b ps := by
  obtain ⟨t, h1, h2, h3⟩ := h
  exact ⟨t, ⟨h1.rad.mono fun _ _ _ => trivial, h1.can, h1.shr, h1.lab⟩, h2, h3⟩
theorem TX.set (h : TX X w b ps) (hX : ∀ x, X' x → X x ∨ w.heap.size ≤ x ∨ ∃ t cs, Blk w x t cs ∧ t ≠ 132 ∧ t ≠ 24) : TX X' w b ps := by
  obtain ⟨t, h1, h2, h3⟩ := h
  refine ⟨t, ⟨h1.rad.ty.mono fun x hx hl hx' => ?_, h1.can, h1.shr, h1.lab⟩, h2, h3⟩
  rcases hX x hx' with h | h | ⟨ty, cs, hB, n1, n2⟩
  · exact hx.1 h
  · omega
  · rcases hx.2 ty cs hB with e | e
    · exact n1 e
    · exact n2 e
theorem PW.tx (h : PW w b ps) (hX : ∀ x, X' x → w.heap.size ≤ x ∨ ∃ t cs, Blk w x t cs ∧ t ≠ 132 ∧ t ≠ 24) : TX X' w b ps := by
  obtain ⟨t, h1, h2, h3⟩ := h
  have : TX (fun _ => False) w b ps := ⟨t, ⟨h1.rad.mono fun _ _ _ h => h, h1.can, h1.shr, h1.lab⟩, h2, h3⟩
  exact this.set fun x hx => .inr (hX x hx)
theorem TX.keep {Y : List Nat} (h : TX X w b ps) (hk : Keep Y w w') (hY : ∀ x ∈ Y, X x) : TX X w' b ps := by
  obtain ⟨t, h1, h2, h3⟩ := h
  exact ⟨t, ⟨h1.rad.keep hk fun x hx hm => hx (hY x hm), h1.can, h1.shr, h1.lab⟩, h2, h3⟩
theorem put_X (h : TX X w b ps) (hX : ∀ x, X x → x < w.heap.size) (tv : Value) (k v : ByteArray) (hd : DeadT w.heap.size w tv) (hk : k.size ≤ 40) (hv : v.size ≤ 40) :
    Calls Try.prog 53 #[tv, at0 b, .agg #[.string k, .string v]] w fun e w' => ∃ b', e = .returned (.tuple #[at0 b', .bool (getR ps k).isNone]) ∧ (getR ps k = some v → b' = b) ∧ TX X w' b' (putK ps (k, v)) ∧ Below w.heap.size w w' := by
  obtain ⟨t, h1, rfl, h3⟩ := h
  refine (put_treeX _ b t tv k v w hd h1 (fun y hy hx => by have := hX y hx; omega) hk).mono ?_
  rintro e w' ⟨b', u, new, rfl, hnew, hsame, hT, hins, hB⟩
  have hp : prs u = putK (prs t) (k, v) := prs_put (p := (k, v)) h1.can hT.can hins
  have hn : new = (getR (prs t) k).isNone := by
    cases hg : getR (prs t) k with
    | none =>
      cases new with
      | true => rfl
      | false => obtain ⟨v', hm⟩ := hnew.1 rfl; rw [(getR_prs h1.can).2 hm] at hg; cases hg
    | some v' => rw [hnew.2 ⟨v', (getR_prs h1.can).1 hg⟩]; rfl
  subst hn
  refine ⟨b', rfl, fun hg => hsame ((getR_prs h1.can).1 hg), ⟨u, hT, hp, fun p hpm => ?_⟩, hB⟩
  rw [← hp] at hpm
  rcases (hins _).1 (prs_mem.1 hpm) with e | ⟨hm, -⟩
  · have : p.2 = v := congrArg Prod.snd e
    rw [this]; exact hv
  · exact h3 p (prs_mem.2 hm)
theorem drop_X (h : TX X w b ps) (hX : ∀ x, X x → x < w.heap.size) (tv : Value) (k : ByteArray) (hd : DeadT w.heap.size w tv) (hk : k.size ≤ 40) :
    Calls Try.prog 54 #[tv, at0 b, .string k] w fun e w' => ∃ b', e = .returned (.tuple #[at0 b', .bool (getR ps k).isSome]) ∧ (getR ps k = none → b' = b) ∧ TX X w' b' (dropK ps k) ∧ Below w.heap.size w w' := by
  obtain ⟨t, h1, rfl, h3⟩ := h
  refine (drop_treeX _ b t tv k w hd h1 (fun y hy hx => by have := hX y hx; omega) hk).mono ?_
  rintro e w' ⟨b', u, found, rfl, hfound, hsame, hT, hdel, hB⟩
  have hp : prs u = dropK (prs t) k := prs_drop h1.can hT.can hdel
  have hn : found = (getR (prs t) k).isSome := by
    cases hg : getR (prs t) k with
    | none =>
      cases found with
      | false => rfl
      | true => obtain ⟨v', hm⟩ := hfound.1 rfl; rw [(getR_prs h1.can).2 hm] at hg; cases hg
    | some v' => rw [hfound.2 ⟨v', (getR_prs h1.can).1 hg⟩]; rfl
  subst hn
  refine ⟨b', rfl, fun hg => hsame (by rw [hg]; rfl), ⟨u, hT, hp, fun p hpm => ?_⟩, hB⟩
  rw [← hp] at hpm
  exact h3 p (prs_mem.2 ((hdel _).1 (prs_mem.1 hpm)).1)
end
end Go.Proofs.Ytimhdegdmdilaaa
/- The law's few: a pair of short strings. -/
namespace Go.Proofs.Ytimhdegdmdilaaa
open Go.RowKit Go.Lib
set_option linter.unusedVariables false
set_option maxRecDepth 100000
set_option linter.unnecessarySimpa false
set_option linter.unusedSimpArgs false
set_option linter.unnecessarySimpa false
set_option maxRecDepth 100000
def cut40 (s : ByteArray) : ByteArray := s.extract 0 40
theorem cut40_size (s : ByteArray) : (cut40 s).size ≤ 40 := by unfold cut40; rw [ByteArray.size_extract]; omega
theorem cut40_le {s : ByteArray} (h : s.size ≤ 40) : cut40 s = s := by
  unfold cut40
  apply bytes_ext
  simp
  exact List.take_of_length_le (by simpa using h)
theorem few_below (w : World) (a b : Value) : Below w.heap.size w ((w.alloc (.cells #[a, b] 29)).alloc (.cells #[a, b] 29)) := ((Below.refl _ w).alloc (Nat.le_refl _) _).alloc (by simp) _
theorem few_end (a b : Value) (tmps : Array Value) (ds : List Deferred) (w : World) (R : Ending → World → Prop) (ht : tmps[2]? = some (.pointer (some ⟨w.heap.size + 1, 0, none⟩))) (hds : ds = [])
    (h : R (.returned (.agg #[a, b])) ((w.alloc (.cells #[a, b] 29)).alloc (.cells #[a, b] 29))) : bodyPost Try.prog Try.f18 R .ret { tmps := tmps, defers := ds } ((w.alloc (.cells #[a, b] 29)).alloc (.cells #[a, b] 29)) := by
  subst hds
  refine bodyPost_ret (v := .agg #[a, b]) ?_ rfl h
  simp [results, Try.f18, go_sem, ht]
set_option maxHeartbeats 1000000 in
theorem few_any (k v : ByteArray) (w : World) : Calls Try.prog 18 #[.agg #[.string k, .string v]] w fun e w' => e = .returned (.agg #[.string (cut40 k), .string (cut40 v)]) ∧ Below w.heap.size w w' := by
  by_cases h1 : k.size ≤ 40
  · have e1 := Lib.hid (cut40_le h1)
    have l1 : ¬ ((k.size : Int) > 40) := by omega
    by_cases h2 : v.size ≤ 40
    · have e2 := Lib.hid (cut40_le h2)
      have l2 : ¬ ((v.size : Int) > 40) := by omega
      go_enter Try.func18, Try.ntmps18
      go_wp2_with fail
      refine few_end _ _ _ _ _ _ rfl rfl ⟨by rw [e1.out, e2.out], few_below _ _ _⟩
    · have e2 := Lib.hid (show cut40 v = v.extract 0 40 from rfl)
      have l2 : (v.size : Int) > 40 := by omega
      have l3 : 40 ≤ v.size := by omega
      go_enter Try.func18, Try.ntmps18
      go_wp2_with fail
      refine few_end _ _ _ _ _ _ rfl rfl ⟨by rw [e1.out, e2.out], few_below _ _ _⟩
  · have e1 := Lib.hid (show cut40 k = k.extract 0 40 from rfl)
    have l1 : (k.size : Int) > 40 := by omega
    have l3 : 40 ≤ k.size := by omega
    by_cases h2 : v.size ≤ 40
    · have e2 := Lib.hid (cut40_le h2)
      have l2 : ¬ ((v.size : Int) > 40) := by omega
      go_enter Try.func18, Try.ntmps18
      go_wp2_with fail
      refine few_end _ _ _ _ _ _ rfl rfl ⟨by rw [e1.out, e2.out], few_below _ _ _⟩
    · have e2 := Lib.hid (show cut40 v = v.extract 0 40 from rfl)
      have l2 : (v.size : Int) > 40 := by omega
      have l4 : 40 ≤ v.size := by omega
      go_enter Try.func18, Try.ntmps18
      go_wp2_with fail
      refine few_end _ _ _ _ _ _ rfl rfl ⟨by rw [e1.out, e2.out], few_below _ _ _⟩
end Go.Proofs.Ytimhdegdmdilaaa
/- Versions: roots and lists, side by side. -/
namespace Go.Proofs.Ytimhdegdmdilaaa
open Go.RowKit Go.Lib
set_option linter.unusedVariables false
set_option maxRecDepth 100000
set_option linter.unusedSimpArgs false
set_option linter.unnecessarySimpa false
set_option linter.unnecessarySimpa false
set_option maxRecDepth 100000
theorem keep_grown {w w' : World} {r : Option Nat} (hg : w.grownBy w' r) : Keep r.toList w w' := ⟨⟨hg.os, hg.tape, hg.output, hg.size, fun i hi => by omega⟩, fun i hi hx => hg.block i hi fun e => hx (by rw [← e]; simp)⟩
theorem blk_lt {w : World} {b : Nat} {o : Obj} (h : w.heap[b]? = some o) : b < w.heap.size := (Array.getElem?_eq_some_iff.1 h).1
theorem OwnR.below' {base : Nat} {w w' : World} {v : Value} {xs : List Pr} (h : OwnR base w v xs) (hb : Below w.heap.size w w') : OwnR base w' v xs := own_keep h (Keep.of_below (X := []) hb) (by simp)
theorem OwnR.nil (base : Nat) (w : World) : OwnR base w (.slice none 0 0) [] := ⟨rfl, .inl ⟨rfl, rfl⟩⟩
theorem Own.below {base : Nat} {w w' : World} {v : Value} {xs : List Pr} (h : Own base w v xs) (hb : Below w.heap.size w w') : Own base w' v xs := own_keep h (Keep.of_below (X := []) hb) (by simp)
theorem Blk.below {w w' : World} {g : Nat} {t : TypeId} {cs : Array Value} (h : Blk w g t cs) (hb : Below w.heap.size w w') : Blk w' g t cs := h.stay hb
theorem dmod {dd : Nat} (h : dd < 256) : (dd % 4 = 3 → IntKind.u8.wrap (Int.tmod (dd : Int) 4) = 3) ∧ (dd % 4 ≠ 3 → ¬ IntKind.u8.wrap (Int.tmod (dd : Int) 4) = 3) := by
  have e : IntKind.u8.wrap (Int.tmod (dd : Int) 4) = ((dd % 4 : Nat) : Int) := by
    have e1 : Int.tmod (dd : Int) 4 = ((dd % 4 : Nat) : Int) := by rw [Int.tmod_eq_emod_of_nonneg (by omega)]; omega
    rw [e1]
    unfold IntKind.wrap
    simp [IntKind.bits, IntKind.signed]
    omega
  rw [e]
  exact ⟨fun h => by omega, fun h => by omega⟩
theorem field0 (k u : ByteArray) (w : World) : (Instr.field 29 (.agg #[.string k, .string u]) 0).run Try.prog w = .ok (.string k) w := by
  kernel_rfl
theorem ins_lenR (p : Pr) : ∀ D : List Pr, (insK p D).length = D.length + 1
  | [] => by simp [insK]
  | q :: r => by
    unfold insK
    split
    · simp
    · simp [ins_lenR p r]
theorem put_lenR (ps : List Pr) (p : Pr) : (putK ps p).length ≤ ps.length + 1 := by
  unfold putK
  rw [ins_lenR]
  have := List.length_filter_le (fun q : Pr => !(q.1.toList == p.1.toList)) ps
  unfold dropK
  omega
theorem OwnR.rdc {base : Nat} {w : World} {v : Value} {xs : List Pr} (h : OwnR base w v xs) : ∃ A c, v = .slice A xs.length c ∧ Rd w A xs ∧ xs.length ≤ c := by
  obtain ⟨A, c, e, hR⟩ := h.rd
  refine ⟨A, c, e, hR, ?_⟩
  rcases h.2 with ⟨h1, h0⟩ | ⟨g, cap, cur, h1, _, _, hc, _⟩
  · omega
  · rw [h1] at e
    simp only [Value.slice.injEq] at e
    omega
def few40 (p : Pr) : Pr := (cut40 p.1, cut40 p.2)
end Go.Proofs.Ytimhdegdmdilaaa
/- Label, Kids. -/
namespace Go.Proofs.Ytimhdegdmdilaaa
open Go.RowKit Go.Lib
set_option linter.unusedVariables false
set_option maxRecDepth 100000
set_option linter.unnecessarySimpa false
set_option linter.unusedSimpArgs false
set_option linter.unnecessarySimpa false
set_option maxRecDepth 100000
theorem label_any (P : Nat → Prop) (b : Nat) (t : RX) (w : World) (h : RadW P w b t) : ∃ lab : ByteArray, lab.data.toList = t.lab ∧ ∀ W, Below w.heap.size w W → Calls Try.prog 67 #[at0 b] W fun e w' => e = .returned (.string lab) ∧ W = w' := by
  cases h with
  | mk h1 =>
    obtain ⟨o, lab, val, sh, e1, e2, hB, c0, c1, c2, c3, c4, c5⟩ := h1.cells
    refine ⟨lab, e1, fun W hW => ?_⟩
    have c1' := (hB.stay hW).cell 1
    simp only [List.getElem?_toArray, List.getElem?_cons_succ, List.getElem?_cons_zero] at c1'
    clear h1 hB e1 e2 c0 c1 c2 c3 c4 c5
    unfold at0
    go_enter Try.func67, Try.ntmps67
    go_wp2_with fail
    go_ret
    exact ⟨rfl, rfl⟩
theorem kids_any (base b : Nat) (t : RX) (kv : Value) (bs : List Nat) (w : World) (h : Nod base w b t kv bs) (hn : bs.length ≤ 900) : Calls Try.prog 64 #[at0 b] w (CloneK bs w) := by
  have kc := clone_kids base kv bs w h.row hn
  obtain ⟨o, lab, val, sh, e1, e2, hB, c0, c1, c2, c3, c4, c5⟩ := h.cells
  obtain ⟨A, n, c, rfl⟩ := h.row.form
  clear h hB e1 e2
  unfold at0
  go_enter Try.func64, Try.ntmps64
  go_wp2_with fail
  refine kc.mono ?_
  rintro e w' ⟨v, rfl, hO, hB2⟩
  obtain ⟨A', n', c', rfl⟩ := hO.form
  go_wp2_with fail
  go_ret
  exact ⟨_, rfl, hO, hB2⟩
end Go.Proofs.Ytimhdegdmdilaaa
/- Stops in memory: rows of trees as parts of rows of pointers. -/
namespace Go.Proofs.Ytimhdegdmdilaaa
open Go.RowKit Go.Lib
set_option linter.unusedVariables false
set_option maxRecDepth 100000
set_option linter.unnecessarySimpa false
set_option linter.unusedSimpArgs false
set_option linter.unnecessarySimpa false
set_option maxRecDepth 100000
abbrev RadT (w : World) (b : Nat) (t : RX) : Prop := RadW (fun _ => True) w b t
/-- the kinds of a tree's blocks -/
theorem RadW.ty2 {P : Nat → Prop} {w : World} {b : Nat} {t : RX} (h : RadW P w b t) : RadW (fun x => ∃ ty cs, Blk w x ty cs ∧ (ty = 132 ∨ ty = 24)) w b t := by
  refine RadW.ind_ (Q := fun b t => RadW (fun x => ∃ ty cs, Blk w x ty cs ∧ (ty = 132 ∨ ty = 24)) w b t) (fun b t kv bs h1 h2 h3 h4 ih => ?_) h
  refine .mk h1 ?_ (fun g hg => ?_) ih
  · obtain ⟨o, lab, val, sh, hB', -⟩ := h1.blk
    exact ⟨_, _, hB', .inl rfl⟩
  · obtain ⟨cur, hc⟩ := own_cells h1.row g hg
    exact ⟨_, _, hc, .inr rfl⟩
/-- blocks of other kinds are written: a tree stands -/
theorem RadW.kept {w w' : World} {b : Nat} {t : RX} {X : List Nat} (h : RadT w b t) (hk : Keep X w w') (hX : ∀ x ∈ X, ∀ ty cs, Blk w x ty cs → ty ≠ 132 ∧ ty ≠ 24) : RadT w' b t := by
  refine (h.ty2.keep hk fun x hx hm => ?_).mono fun _ _ _ => trivial
  obtain ⟨ty, cs, hB, e⟩ := hx
  have := hX x hm ty cs hB
  rcases e with e | e
  · exact this.1 e
  · exact this.2 e
/-- a row of trees, as a part of a row of pointers -/
def SlK (w : World) (v : Value) (ks : List RX) : Prop :=
  (v = .slice none 0 0 ∧ ks = []) ∨ ∃ (g lo c : Nat) (bs : List Nat) (cs : Array Value), v = .slice (some ⟨g, lo, none⟩) ks.length c ∧ Blk w g 24 cs ∧ bs.length = ks.length ∧ (∀ i b : Nat, bs[i]? = some b → cs[lo + i]? = some (at0 b)) ∧ ∀ (i b : Nat) (k : RX), bs[i]? = some b → ks[i]? = some k → RadT w b k
theorem SlK.below {w w' : World} {v : Value} {ks : List RX} (h : SlK w v ks) (hb : Below w.heap.size w w') : SlK w' v ks := by
  rcases h with h | ⟨g, lo, c, bs, cs, h1, h2, h3, h4, h5⟩
  · exact .inl h
  · exact .inr ⟨g, lo, c, bs, cs, h1, h2.below hb, h3, h4, fun i b k hb1 hk => (h5 i b k hb1 hk).stay hb⟩
theorem SlK.kept {w w' : World} {v : Value} {ks : List RX} {X : List Nat} (h : SlK w v ks) (hk : Keep X w w') (hX : ∀ x ∈ X, ∀ ty cs, Blk w x ty cs → ty ≠ 132 ∧ ty ≠ 24) : SlK w' v ks := by
  rcases h with h | ⟨g, lo, c, bs, cs, h1, h2, h3, h4, h5⟩
  · exact .inl h
  · refine .inr ⟨g, lo, c, bs, cs, h1, h2.keep hk fun hm => ?_, h3, h4, fun i b k hb1 hk1 => (h5 i b k hb1 hk1).kept hk hX⟩
    exact (hX g hm _ _ h2).2 rfl
/-- the tree at a place -/
theorem SlK.at {w : World} {v : Value} {ks : List RX} (h : SlK w v ks) (j : Nat) (hj : j < ks.length) : ∃ (g lo c b : Nat), v = .slice (some ⟨g, lo, none⟩) ks.length c ∧ w.cell? ⟨g, lo + j, none⟩ = some (at0 b) ∧ RadT w b (rat ks j) := by
  rcases h with ⟨_, h⟩ | ⟨g, lo, c, bs, cs, h1, h2, h3, h4, h5⟩
  · rw [h] at hj; simp at hj
  · have hb : bs[j]? = some bs[j] := List.getElem?_eq_getElem (by omega)
    exact ⟨g, lo, c, bs[j], h1, (h2.cell (lo + j)).trans (h4 j _ hb), h5 j _ _ hb (rat_get hj)⟩
/-- a stop in memory -/
structure StC where
  s : St
  b : Nat
  key : ByteArray
  vl : Value
  vm : Value
def StC.cells (c : StC) : List Value := [at0 c.b, .string c.key, c.vl, c.vm]
structure StOK (w : World) (c : StC) : Prop where
  key : c.key.data.toList = c.s.pre
  rad : RadT w c.b c.s.t
  can : Can c.s.t
  less : SlK w c.vl (lessS c.s)
  more : SlK w c.vm (moreS c.s)
theorem StOK.below {w w' : World} {c : StC} (h : StOK w c) (hb : Below w.heap.size w w') : StOK w' c := ⟨h.key, h.rad.stay hb, h.can, h.less.below hb, h.more.below hb⟩
theorem StOK.kept {w w' : World} {c : StC} {X : List Nat} (h : StOK w c) (hk : Keep X w w') (hX : ∀ x ∈ X, ∀ ty cs, Blk w x ty cs → ty ≠ 132 ∧ ty ≠ 24) : StOK w' c := ⟨h.key, h.rad.kept hk hX, h.can, h.less.kept hk hX, h.more.kept hk hX⟩
end Go.Proofs.Ytimhdegdmdilaaa
/- The first and the last pair below a node. -/
namespace Go.Proofs.Ytimhdegdmdilaaa
open Go.RowKit Go.Lib
set_option linter.unusedVariables false
set_option linter.unnecessarySimpa false
set_option linter.unusedSimpArgs false
set_option linter.unnecessarySimpa false
set_option maxRecDepth 100000
def nums (p : List UInt8) : List Nat := p.map UInt8.toNat
def strOf (p : List UInt8) : ByteArray := ⟨p.toArray⟩
theorem nums_app (p q : List UInt8) : nums (p ++ q) = nums p ++ nums q := by simp [nums]
theorem nums_len (p : List UInt8) : (nums p).length = p.length := by simp [nums]
theorem strB_nums {s : ByteArray} {p : List UInt8} (h : s.data.toList = p) : strB s = nums p := by unfold strB nums; rw [h]
theorem strOf_data (p : List UInt8) : (strOf p).data.toList = p := by simp [strOf]
theorem strOf_self {s : ByteArray} {p : List UInt8} (h : s.data.toList = p) : strOf p = s := bytes_ext (by rw [strOf_data, h])
theorem bytS_nums (p : List UInt8) : bytS (nums p) = strOf p := by
  apply bytes_ext
  rw [strOf_data]
  unfold bytS nums
  rw [strOfNums_data, List.map_map, List.map_map]
  conv => rhs; rw [← List.map_id p]
  exact List.map_congr_left fun x _ => by simp
def sliceLen : Value → Nat | .slice _ n _ => n | _ => 0
/-- a pair's box and whether it is there, returned -/
theorem ret_pair {fn : Func} (h : fn.results = #[.cell 4 29, .tmp 5]) (tmps : Array Value) (w : World) (g : Nat) (cs : Array Value) (hp : tmps.getD 4 undef = .pointer (some ⟨g, 0, none⟩)) (hg : w.heap[g]? = some (.cells cs 29 (0, 0))) (hi : cs.size = 2) :
    (results fn tmps).run Try.prog w = .ok (.tuple #[.agg cs, tmps.getD 5 undef]) w := by
  have h29 : (Try.prog.info? 29).map (·.size) = some cs.size := by rw [hi]; kernel_rfl
  have hl := run_loadVar_row (P := Try.prog) w g 29 29 cs (0, 0) _ hg Try.underlying29 rfl h29
  rw [results_cell_tmp h, hp]
  simp [asAddr, Result.andThen, hl]
theorem Blk.set2 {w : World} {g : Nat} {x y : Value} (h : Blk w g 29 #[x, y]) (a b : Value) : Blk ((w.setCell ⟨g, 0, none⟩ a).setCell ⟨g, 1, none⟩ b) g 29 #[a, b] := by
  have h' : w.heap[g]? = some (.cells #[x, y] 29 (0, 0)) := h
  unfold Blk
  simp [World.setCell, h', Array.getElem?_modify]
/-- an entry as the program returns it -/
def entV : Option Ent → Value
  | some e => .tuple #[.agg #[.string (strOf e.1), .string e.2], .bool true]
  | none => .tuple #[.agg #[.string ⟨#[]⟩, .string ⟨#[]⟩], .bool false]
/-- what is known on the way to the first or the last pair -/
structure EndW (w : World) (M : Nat) (b : Nat) (t : RX) (p : List UInt8) : Prop where
  rad : RadT w b t
  can : Can t
  len : p.length ≤ M
  all : ∀ e ∈ body t, p.length + e.1.length ≤ M
theorem EndW.below {w w' : World} {M b : Nat} {t : RX} {p : List UInt8} (h : EndW w M b t p) (hb : Below w.heap.size w w') : EndW w' M b t p := ⟨h.rad.stay hb, h.can, h.len, h.all⟩
theorem kid_some {t k : RX} (hc : Can t) (hk : k ∈ t.kids) : ∃ e, e ∈ body k := by
  refine body_some k (hc.kids k hk) ?_
  rcases (hc.kd k hk).2 with h | h
  · exact .inl h
  · exact .inr (by omega)
theorem EndW.kid {w : World} {M b c : Nat} {t k : RX} {p : List UInt8} (h : EndW w M b t p) (hk : k ∈ t.kids) (hr : RadT w c k) : EndW w M c k (p ++ k.lab) := by
  have ha : ∀ e ∈ body k, (p ++ k.lab).length + e.1.length ≤ M := fun e he => by
    have := h.all (k.lab ++ e.1, e.2) (body_mem.2 (.inr ⟨k, hk, e.1, he, rfl⟩))
    simp at this ⊢
    omega
  obtain ⟨e, he⟩ := kid_some h.can hk
  have := ha e he
  exact ⟨hr, h.can.kids k hk, by omega, ha⟩
theorem EndW.grown {w w' : World} {M b base : Nat} {t : RX} {p : List UInt8} {v : Value} {L : List Nat} (h : EndW w M b t p) (ho : OwnM base w v L) (hg : w.grownBy w' v.ownBlock) : EndW w' M b t p :=
  ⟨h.rad.kept (keep_grown hg) (fun x hx ty cs hB => by
    obtain ⟨-, cur, fz, hc⟩ := ho.lt x (by simpa using hx)
    unfold Blk at hB
    rw [hc] at hB
    simp at hB
    rw [← hB.2.1]
    exact ⟨by decide, by decide⟩), h.can, h.len, h.all⟩
theorem head_val {t : RX} {v : ByteArray} (h : t.val = some v) : (body t).head? = some ([], v) := by rw [body_eq, h]; rfl
theorem head_kid {t k : RX} {ks : List RX} (h : t.val = none) (hk : t.kids = k :: ks) (hc : Can t) : (body t).head? = ((body k).head?).map (preE k.lab) := by
  rw [body_eq, h, hk, bodyL_cons]
  obtain ⟨e, he⟩ := kid_some hc (k := k) (by rw [hk]; simp)
  cases hb : body k with
  | nil => rw [hb] at he; simp at he
  | cons x xs => simp [vals]
theorem head_none {t : RX} (h : t.val = none) (hk : t.kids = []) : (body t).head? = none := by rw [body_eq, h, hk]; simp [vals, bodyL]
theorem last_kid {t k : RX} {ks : List RX} (hk : t.kids = ks ++ [k]) (hc : Can t) : (body t).getLast? = ((body k).getLast?).map (preE k.lab) := by
  rw [body_eq, hk, bodyL_append, bodyL_cons]
  obtain ⟨e, he⟩ := kid_some hc (k := k) (by rw [hk]; simp)
  have : (body k).map (preE k.lab) ++ bodyL [] = (body k).map (preE k.lab) := by simp [bodyL]
  rw [this, ← List.append_assoc, List.getLast?_append, List.getLast?_map]
  cases hb : (body k).getLast? with
  | none => rw [List.getLast?_eq_none_iff] at hb; rw [hb] at he; simp at he
  | some x => simp
theorem last_here {t : RX} (hk : t.kids = []) : (body t).getLast? = (vals t.val).getLast? := by rw [body_eq, hk]; simp [bodyL]
/-- the world behind the conversion of the key -/
abbrev keyW (w : World) (key : ByteArray) : World := bytesWorld (w.alloc (.cells #[.string ⟨#[]⟩, .string ⟨#[]⟩] 29)) 5 key
theorem key_start (b : Nat) (t : RX) (key : ByteArray) (w : World) (h : RadT w b t) (hc : Can t) (hs : Shrt 1000 t) (hk : key.size ≤ 1000) :
    EndW (keyW w key) 2000 b t key.data.toList ∧ Blk (keyW w key) w.heap.size 29 #[.string ⟨#[]⟩, .string ⟨#[]⟩] ∧ Below w.heap.size w (keyW w key) ∧
    OwnM w.heap.size (keyW w key) (.slice (some ⟨w.heap.size + 1, 0, none⟩) key.size (grownCap (w.alloc (.cells #[.string ⟨#[]⟩, .string ⟨#[]⟩] 29)) key.size 0 5)) (nums key.data.toList) := by
  have hkl : key.data.toList.length = key.size := size_of key
  have hB0 := (Below.refl _ w).alloc (Nat.le_refl _) (.cells #[.string ⟨#[]⟩, .string ⟨#[]⟩] 29)
  have bR := Blk.new w 29 #[.string ⟨#[]⟩, .string ⟨#[]⟩]
  have hp := OwnM.new (w.alloc (.cells #[.string ⟨#[]⟩, .string ⟨#[]⟩] 29)) key w.heap.size hB0.size (by omega)
  have hb1 := bytes_below (w.alloc (.cells #[.string ⟨#[]⟩, .string ⟨#[]⟩] 29)) key
  have hE : EndW w 2000 b t key.data.toList := ⟨h, hc, by omega, fun e he => by have := hs e he; omega⟩
  rw [World.size_alloc, strB_nums rfl] at hp
  exact ⟨hE.below (hB0.trans (hb1.mono hB0.size)), bR.below hb1, hB0.trans (hb1.mono hB0.size), hp⟩
set_option maxHeartbeats 4000000 in
theorem nfirst_any (b : Nat) (t : RX) (key : ByteArray) (w : World) (h : RadT w b t) (hc : Can t) (hs : Shrt 1000 t) (hk : key.size ≤ 1000) :
    Calls Try.prog 62 #[at0 b, .string key] w fun e w' => e = .returned (entV (((body t).head?).map (preE key.data.toList))) ∧ Below w.heap.size w w' := by
  obtain ⟨goal, hgoal⟩ : ∃ g, g = ((body t).head?).map (preE key.data.toList) := ⟨_, rfl⟩
  rw [← hgoal]
  have hcv := Go.Lib.run_convert_string_bytes (P := Try.prog) (w.alloc (.cells #[.string ⟨#[]⟩, .string ⟨#[]⟩] 29)) 9 79 5 key Try.underlying9 Try.underlying79 Try.underlying5
  obtain ⟨hE, bR, hB, hp⟩ := key_start b t key w h hc hs hk
  have HE := Lib.hid hE
  have HR := Lib.hid bR
  have HB := Lib.hid hB
  have HP := Lib.hid hp
  have HG := Lib.hid hgoal
  clear h hc hs hE bR hB hp hgoal
  rw [World.size_alloc] at hcv
  unfold at0
  go_enter Try.func62, Try.ntmps62
  go_wp2_with fail
  clear hcv
  obtain ⟨W0, hW0⟩ : ∃ W0, W0 = keyW w key := ⟨_, rfl⟩
  rw [show bytesWorld (w.alloc (.cells #[.string ⟨#[]⟩, .string ⟨#[]⟩] 29)) 5 key = W0 from hW0.symm]
  rw [← hW0] at HE HR HB HP
  obtain ⟨NR, hNR⟩ : ∃ NR, NR = w.heap.size := ⟨_, rfl⟩
  have HNR := Lib.hid hNR
  rw [← hNR] at HR ⊢
  generalize grownCap (w.alloc (.cells #[.string ⟨#[]⟩, .string ⟨#[]⟩] 29)) key.size 0 5 = cap0 at *
  generalize key.data.toList = p0 at *
  clear hW0 hNR
  go_loopw [0, 6] (fun vn vp wr => ∃ (b' : Nat) (t' : RX) (p : List UInt8), vn = .pointer (some ⟨b', 0, none⟩) ∧ OwnM w.heap.size wr vp (nums p) ∧ EndW wr 2000 b' t' p ∧ Hid (goal = ((body t').head?).map (preE p)) ∧ Blk wr NR 29 #[.string ⟨#[]⟩, .string ⟨#[]⟩] ∧ Below w.heap.size w wr) (fun vn vp wr => 3000 - sliceLen vp)
  case atStart => exact ⟨b, t, p0, rfl, by rw [HNR.out]; exact HP.out, HE.out, HG, HR.out, HB.out⟩
  case round =>
    clear HP HE HG HR HB
    obtain ⟨b', t', p, rfl, hp, hE, hG, bR, hB⟩ := hrel
    have kv := value_any _ b' t' wr hE.rad
    unfold at0 at kv
    cases ht : t'.val with
    | some v =>
      rw [ht] at kv
      simp only [Option.getD_some, Option.isSome_some] at kv
      have hgo : goal = some (p, v) := by rw [hG.out, head_val ht]; simp [preE]
      have HGO := Lib.hid hgo
      have HPP := Lib.hid hp
      have HRR := Lib.hid bR
      have HBB := Lib.hid hB
      clear hE hG hp bR hB ht hgo
      go_wp2_with fail
      refine kv.mono ?_
      rintro e w1 ⟨rfl, hB1⟩
      have hcv := (HPP.out.below hB1).conv
      rw [bytS_nums] at hcv
      have bR := HRR.out.below hB1
      have y0 := bR.cell 0
      have y1 := bR.cell 1
      have f0 := bR.frozen 0
      have f1 := bR.frozen 1
      have HX := Lib.hid (HBB.out.trans (hB1.mono HBB.out.size))
      have F2 := Lib.hid (fun a => bR.set2 (.string a) (.string v))
      clear kv bR hB1
      go_wp2_with fail
      refine bodyPost_ret (ret_pair rfl _ _ NR _ rfl (F2.out _) rfl) rfl ?_
      rw [HGO.out]
      exact ⟨rfl, (HX.out.setCell (p := ⟨NR, 0, none⟩) (Nat.le_of_eq HNR.out.symm) _).setCell (p := ⟨NR, 1, none⟩) (Nat.le_of_eq HNR.out.symm) _⟩
    | none =>
      rw [ht] at kv
      simp only [Option.getD_none, Option.isSome_none] at kv
      have HPP := Lib.hid hp
      have HRR := Lib.hid bR
      have HBB := Lib.hid hB
      have HEE := Lib.hid hE
      have HT := Lib.hid ht
      clear hE hp bR hB ht
      go_wp2_with fail
      refine kv.mono ?_
      rintro e w1 ⟨rfl, hB1⟩
      have hE1 := HEE.out.below hB1
      obtain ⟨kv1, bs, hN, hKd⟩ : ∃ kv bs, Nod 0 w1 b' t' kv bs ∧ ∀ (i c : Nat) (k : RX), bs[i]? = some c → t'.kids[i]? = some k → RadT w1 c k := by
        cases hE1.rad with | mk a1 a2 a3 a4 => exact ⟨_, _, a1, a4⟩
      have hlen := hN.len
      have hbl : bs.length ≤ 900 := by rw [hlen]; have := kids_few hE1.can; omega
      have kk := kids_any 0 b' t' kv1 bs w1 hN hbl
      have HEE := Lib.hid hE1
      have HPP := Lib.hid (HPP.out.below hB1)
      have HRR := Lib.hid (HRR.out.below hB1)
      have HBB := Lib.hid (HBB.out.trans (hB1.mono HBB.out.size))
      have HK := Lib.hid hKd
      have HLN := Lib.hid hlen
      unfold at0 at kk
      clear kv hB1 hE1 hKd hN hlen
      go_wp2_with fail
      refine kk.mono ?_
      rintro e w2 ⟨v2, rfl, hO2, hB2⟩
      have hEE := HEE.out.below hB2
      have hPP := HPP.out.below hB2
      have bR := HRR.out.below hB2
      have hBB := HBB.out.trans (hB2.mono HBB.out.size)
      by_cases hk0 : bs.length = 0
      · have hkn : t'.kids = [] := List.length_eq_zero_iff.1 (by rw [← HLN.out]; exact hk0)
        have hgo : goal = none := by rw [hG.out, head_none HT.out hkn]; rfl
        obtain ⟨A2, n2, c2, hv2⟩ := hO2.form
        have hn2 : n2 = 0 := by
          rcases hO2.2 with ⟨e, h0⟩ | ⟨g, cap, cur, e, _⟩
          · rw [hv2] at e; simp only [Value.slice.injEq] at e; exact e.2.1
          · rw [hv2] at e; simp only [Value.slice.injEq] at e; omega
        subst hv2 hn2
        have y0 := bR.cell 0
        have y1 := bR.cell 1
        have f0 := bR.frozen 0
        have f1 := bR.frozen 1
        have F2 := Lib.hid (fun a b => bR.set2 (.string a) (.string b))
        have HX := Lib.hid hBB
        have HGO := Lib.hid hgo
        clear kk hO2 hEE hPP bR hBB hB2 hG hgo hkn hk0 hbl HK
        go_wp2_with fail
        refine bodyPost_ret (ret_pair rfl _ _ NR _ rfl (F2.out _ _) rfl) rfl ?_
        rw [HGO.out]
        exact ⟨rfl, (HX.out.setCell (p := ⟨NR, 0, none⟩) (Nat.le_of_eq HNR.out.symm) _).setCell (p := ⟨NR, 1, none⟩) (Nat.le_of_eq HNR.out.symm) _⟩
      · obtain ⟨k, ks, hks⟩ : ∃ k ks, t'.kids = k :: ks := by
          cases hh : t'.kids with
          | nil => rw [HLN.out, hh] at hk0; simp at hk0
          | cons k ks => exact ⟨k, ks, rfl⟩
        obtain ⟨g, c2, hv2, c0⟩ := hO2.at_ 0 (by omega)
        obtain ⟨b1, hb1⟩ : ∃ b1, b1 = bs.getD 0 0 := ⟨_, rfl⟩
        have hb10 : bs[0]? = some b1 := by rw [hb1, List.getD_eq_getElem?_getD, List.getElem?_eq_getElem (by omega)]; rfl
        rw [← hb1] at c0
        have hrk : RadT w2 b1 k := (HK.out 0 b1 k hb10 (by rw [hks]; rfl)).stay hB2
        obtain ⟨lab, hlab, kl⟩ := label_any _ b1 k w2 hrk
        have hE2 := hEE.kid (k := k) (by rw [hks]; simp) hrk
        have hgo : goal = ((body k).head?).map (preE (p ++ k.lab)) := by rw [hG.out, head_kid HT.out hks hEE.can, pre_pre]
        have hll := hE2.len
        have hpl := nums_len p
        have hls : lab.size = k.lab.length := by rw [← hlab]; exact (size_of lab).symm
        have hsl : sliceLen u6 = p.length := by obtain ⟨A, c, h⟩ := hPP.len; rw [h, nums_len] ; rfl
        subst hv2
        have kl2 := kl w2 (Below.refl _ _)
        have HE2 := Lib.hid hE2
        have HGO := Lib.hid hgo
        have HP2 := Lib.hid hPP
        have HR2 := Lib.hid bR
        have HB2 := Lib.hid hBB
        have hpos : 0 < k.lab.length := by
          have := (hEE.can.kd k (by rw [hks]; simp)).1
          cases hl : k.lab with
          | nil => exact absurd hl this
          | cons x s => simp
        have L1 : (0 : Int) < (bs.length : Int) := by omega
        have L2 : ¬ ((bs.length : Int) = 0) := by omega
        have HM := Lib.hid (⟨hsl, hpos, hll, hls⟩ : sliceLen u6 = p.length ∧ 0 < k.lab.length ∧ (p ++ k.lab).length ≤ 2000 ∧ lab.size = k.lab.length)
        have HSB := Lib.hid (strB_nums hlab)
        have hP2' : OwnM w.heap.size w2 u6 (nums p) := hPP
        have hsz2 := hBB.size
        have hll2 : p.length + k.lab.length ≤ 2000 := by simpa using hll
        unfold at0 at c0 kl2
        clear kk hO2 hEE bR hBB hB2 hG hgo hks hk0 hbl HK hrk hE2 hb1 hb10 kl hsl hpos hll hls hlab HLN HT HEE HPP HRR HBB
        go_wp2_with fail
        refine kl2.mono ?_
        rintro e w3 ⟨rfl, rfl⟩
        go_wp2_with (at_builtin; refine wpList_appM rfl _ _ rfl w.heap.size u6 (nums p) lab rfl rfl hP2' (by rw [hpl]; omega) (by rw [HM.out.2.2.2]; omega) hsz2 ?_; intro v' wa hown' hgrow)
        rw [HSB.out, ← nums_app] at hown'
        have hB3 := HB2.out.grown hgrow hsz2 (fun g hg => (HP2.out.lt g hg).1)
        refine ⟨⟨b1, k, p ++ k.lab, rfl, hown', HE2.out.grown HP2.out hgrow, HGO, ?_, hB3⟩, ?_⟩
        · exact HR2.out.keep (keep_grown hgrow) (fun hm => by
            obtain ⟨-, cur, fz, hc⟩ := HP2.out.lt NR (by simpa using hm)
            have := HR2.out
            unfold Blk at this
            rw [hc] at this
            simp at this)
        · obtain ⟨A, c, h⟩ := hown'.len
          have hm := HM.out
          rw [h]
          show 3000 - (nums (p ++ k.lab)).length < 3000 - sliceLen u6
          rw [nums_len, hm.1, List.length_append]
          omega
end Go.Proofs.Ytimhdegdmdilaaa
