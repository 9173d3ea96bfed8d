/- The calls of radix in words of lists of pairs. -/
import Derived.Test.YtimhdegdmdilaaaHak
import Derived.Test.YtimhdegdmdilaaaHad
import Derived.Test.YtimhdegdmdilaaaHal
import Derived.Test.YtimhdegdmdilaaaHag
import Derived.Test.YtimhdegdmdilaaaHac
import Derived.Deep.SlicePairs
import Derived.OpenShut
import Derived.ChangeOld
namespace Go.Proofs.Ytimhdegdmdilaaa
open Go.RowKit Go.Lib
set_option linter.unusedVariables false
set_option maxRecDepth 100000
set_option linter.unnecessarySimpa false
set_option linter.unusedSimpArgs false
set_option linter.unnecessarySimpa false
set_option maxRecDepth 100000
theorem isK_ltR {xs : List Pr} {k : ByteArray} (h : isK xs k = true) : posK xs k < xs.length := by unfold isK at h; exact (of_decide_eq_true h).1
theorem isK_memR {xs : List Pr} {k v : ByteArray} (hr : RisesL xs) (h : (k, v) ∈ xs) : isK xs k = true := by
  obtain ⟨j, hj, he⟩ := List.mem_iff_getElem.1 h
  have hp : pat xs j = (k, v) := by
    have := pat_get hj
    rw [List.getElem?_eq_getElem hj, he] at this
    exact (Option.some.inj this).symm
  have h1 : posK xs k ≤ j := by
    rcases Nat.lt_or_ge j (posK xs k) with hlt | hge
    · have h2 := posK_lt xs k j hlt
      rw [hp] at h2
      exact absurd rfl h2.ne
    · exact hge
  have hl : posK xs k < xs.length := by omega
  unfold isK
  rw [decide_eq_true_eq]
  refine ⟨hl, ?_⟩
  rcases Nat.lt_or_ge (posK xs k) j with hlt | hge
  · have h2 := rises_at hr hlt hj
    rw [hp] at h2
    exact absurd h2 (posK_not xs k hl)
  · rw [show posK xs k = j by omega, hp]
/-- a key's value in a list -/
def getR (xs : List Pr) (k : ByteArray) : Option ByteArray := if isK xs k = true then some (pat xs (posK xs k)).2 else none
theorem getR_mem {xs : List Pr} {k v : ByteArray} (h : getR xs k = some v) : (k, v) ∈ xs := by
  unfold getR at h
  split at h
  · rename_i hk
    have hl := isK_ltR hk
    have hm := List.mem_of_getElem? (pat_get hl)
    have e : (pat xs (posK xs k)).1 = k := by unfold isK at hk; exact (of_decide_eq_true hk).2
    have e2 : (pat xs (posK xs k)).2 = v := Option.some.inj h
    rw [← e, ← e2]; exact hm
  · cases h
theorem getR_none {xs : List Pr} {k : ByteArray} (hr : RisesL xs) (h : getR xs k = none) (v : ByteArray) : (k, v) ∉ xs := fun hm => by
  unfold getR at h
  rw [if_pos (isK_memR hr hm)] at h
  cases h
theorem prs_one {t : RX} (h : Can t) {k v v' : ByteArray} (h1 : (k, v) ∈ prs t) (h2 : (k, v') ∈ prs t) : v = v' := can_one h (prs_mem.1 h1) (prs_mem.1 h2)
theorem getR_prs {t : RX} (h : Can t) {k v : ByteArray} : getR (prs t) k = some v ↔ (k.data.toList, v) ∈ body t := by
  constructor
  · intro hg; exact prs_mem.1 (getR_mem hg)
  · intro hm
    have hp : (k, v) ∈ prs t := prs_mem.2 hm
    cases hg : getR (prs t) k with
    | none => exact absurd hp (getR_none (prs_rises h) hg v)
    | some v' => rw [prs_one h (getR_mem hg) hp]
set_option maxHeartbeats 1000000 in
theorem refGetR_any (A : Option Addr) (c : Nat) (xs : List Pr) (k : ByteArray) (w : World) (hR : Rd w A xs) (hn : xs.length ≤ 1000) (hz : Sized xs) (hk : k.size ≤ maxLen) :
    Calls Try.prog 34 #[.slice A xs.length c, .string k] w fun e w' => e = .returned (.tuple #[.string ((getR xs k).getD ⟨#[]⟩), .bool (getR xs k).isSome]) ∧ Below w.heap.size w w' := by
  have kf := refFind_any A c xs k w hR hn hz hk
  unfold getR
  cases hik : isK xs k with
  | true =>
    rw [hik] at kf
    rw [if_pos rfl]
    have hl := isK_ltR hik
    obtain ⟨g, off, rfl, c0, c1⟩ := hR _ _ (pat_get hl)
    have B1 : ((posK xs k : Nat) : Int) < (xs.length : Int) := by omega
    clear hik hR
    generalize posK xs k = P at *
    go_enter Try.func34, Try.ntmps34
    go_wp2_with fail
    refine kf.mono ?_
    rintro e w1 ⟨rfl, q, rfl⟩
    have d1 : (w.drewN q).cell? ⟨g, off + P * 2 + 1, none⟩ = some (.string (pat xs P).2) := c1
    have hB : Below w.heap.size w (w.drewN q) := ⟨rfl, rfl, rfl, Nat.le_refl _, fun _ _ => rfl⟩
    clear kf c0 c1
    generalize w.drewN q = W at *
    go_wp2_with fail
    go_ret2
    exact ⟨rfl, hB⟩
  | false =>
    rw [hik] at kf
    rw [if_neg (by simp)]
    clear hik hR
    generalize posK xs k = P at *
    go_enter Try.func34, Try.ntmps34
    go_wp2_with fail
    refine kf.mono ?_
    rintro e w1 ⟨rfl, q, rfl⟩
    have hB : Below w.heap.size w (w.drewN q) := ⟨rfl, rfl, rfl, Nat.le_refl _, fun _ _ => rfl⟩
    generalize w.drewN q = W at *
    go_wp2_with fail
    go_ret2
    exact ⟨rfl, hB⟩
/-- a tree of these pairs -/
def PW (w : World) (b : Nat) (ps : List Pr) : Prop := ∃ t, TreeW w b t ∧ prs t = ps ∧ ∀ p ∈ ps, p.2.size ≤ 40
theorem PW.below {w w' : World} {b : Nat} {ps : List Pr} (h : PW w b ps) (hb : Below w.heap.size w w') : PW w' b ps := by
  obtain ⟨t, h1, h2, h3⟩ := h
  exact ⟨t, h1.below hb, h2, h3⟩
theorem PW.rises {w : World} {b : Nat} {ps : List Pr} (h : PW w b ps) : RisesL ps := by
  obtain ⟨t, h1, rfl, -⟩ := h
  exact prs_rises h1.can
theorem PW.keys {w : World} {b : Nat} {ps : List Pr} (h : PW w b ps) : ∀ p ∈ ps, p.1.size ≤ 40 := fun p hp => by
  obtain ⟨t, h1, rfl, -⟩ := h
  have := h1.shr _ (prs_mem.1 hp)
  have e : p.1.size = (key p).length := by show p.1.data.size = p.1.data.toList.length; exact Array.length_toList.symm
  simp only at this
  omega
theorem get_list {w : World} {b : Nat} {ps : List Pr} (h : PW w b ps) (k : ByteArray) (hk : k.size ≤ 1000) :
    Calls Try.prog 68 #[at0 b, .string k] w fun e w' => e = .returned (.tuple #[.string ((getR ps k).getD ⟨#[]⟩), .bool (getR ps k).isSome]) ∧ Below w.heap.size w w' := by
  obtain ⟨t, h1, rfl, -⟩ := h
  refine (get_any (fun _ => True) b t k w h1.rad h1.can (h1.shr.more (by omega)) hk).mono ?_
  rintro e w' ⟨o, rfl, ho, hB⟩
  have : o = getR (prs t) k := by
    apply Option.ext
    intro v
    rw [ho, getR_prs h1.can]
  subst this
  exact ⟨rfl, hB⟩
theorem put_list {w : World} {b : Nat} {ps : List Pr} (h : PW w b ps) (tv : Value) (k v : ByteArray) (hd : DeadT w.heap.size w tv) (hk : k.size ≤ 40) (hv : v.size ≤ 40) :
    Calls Try.prog 53 #[tv, at0 b, .agg #[.string k, .string v]] w fun e w' => ∃ b', e = .returned (.tuple #[at0 b', .bool (getR ps k).isNone]) ∧ (getR ps k = some v → b' = b) ∧ PW w' b' (putK ps (k, v)) ∧ Below w.heap.size w w' := by
  obtain ⟨t, h1, rfl, h3⟩ := h
  refine (put_tree b t tv k v w hd h1 hk).mono ?_
  rintro e w' ⟨b', u, new, rfl, hnew, hsame, hT, hins, hB⟩
  have hp : prs u = putK (prs t) (k, v) := prs_put (p := (k, v)) h1.can hT.can hins
  have hn : new = (getR (prs t) k).isNone := by
    cases hg : getR (prs t) k with
    | none =>
      cases new with
      | true => rfl
      | false => obtain ⟨v', hm⟩ := hnew.1 rfl; rw [(getR_prs h1.can).2 hm] at hg; cases hg
    | some v' => rw [hnew.2 ⟨v', (getR_prs h1.can).1 hg⟩]; rfl
  subst hn
  refine ⟨b', rfl, fun hg => hsame ((getR_prs h1.can).1 hg), ⟨u, hT, hp, fun p hpm => ?_⟩, hB⟩
  rw [← hp] at hpm
  rcases (hins _).1 (prs_mem.1 hpm) with e | ⟨hm, -⟩
  · have : p.2 = v := congrArg Prod.snd e
    rw [this]; exact hv
  · exact h3 p (prs_mem.2 hm)
theorem drop_list {w : World} {b : Nat} {ps : List Pr} (h : PW w b ps) (tv : Value) (k : ByteArray) (hd : DeadT w.heap.size w tv) (hk : k.size ≤ 40) :
    Calls Try.prog 54 #[tv, at0 b, .string k] w fun e w' => ∃ b', e = .returned (.tuple #[at0 b', .bool (getR ps k).isSome]) ∧ (getR ps k = none → b' = b) ∧ PW w' b' (dropK ps k) ∧ Below w.heap.size w w' := by
  obtain ⟨t, h1, rfl, h3⟩ := h
  refine (drop_tree b t tv k w hd h1 hk).mono ?_
  rintro e w' ⟨b', u, found, rfl, hfound, hsame, hT, hdel, hB⟩
  have hp : prs u = dropK (prs t) k := prs_drop h1.can hT.can hdel
  have hn : found = (getR (prs t) k).isSome := by
    cases hg : getR (prs t) k with
    | none =>
      cases found with
      | false => rfl
      | true => obtain ⟨v', hm⟩ := hfound.1 rfl; rw [(getR_prs h1.can).2 hm] at hg; cases hg
    | some v' => rw [hfound.2 ⟨v', (getR_prs h1.can).1 hg⟩]; rfl
  subst hn
  refine ⟨b', rfl, fun hg => hsame (by rw [hg]; rfl), ⟨u, hT, hp, fun p hpm => ?_⟩, hB⟩
  rw [← hp] at hpm
  exact h3 p (prs_mem.2 ((hdel _).1 (prs_mem.1 hpm)).1)
theorem PW.empty {w : World} {b : Nat} (h : TreeW w b nilR) : PW w b [] := ⟨nilR, h, rfl, fun p hp => by simp at hp⟩
end Go.Proofs.Ytimhdegdmdilaaa
/- Trees that keep away from some blocks. -/
namespace Go.Proofs.Ytimhdegdmdilaaa
open Go.RowKit Go.Lib
set_option linter.unusedVariables false
set_option maxRecDepth 100000
set_option linter.unnecessarySimpa false
set_option linter.unusedSimpArgs false
set_option linter.unnecessarySimpa false
set_option maxRecDepth 100000
/-- a tree, all its blocks P -/
structure TreeX (P : Nat → Prop) (w : World) (b : Nat) (t : RX) : Prop where
  rad : RadW P w b t
  can : Can t
  shr : Shrt 40 t
  lab : t.lab = []
theorem TreeX.below {P : Nat → Prop} {w w' : World} {b : Nat} {t : RX} (h : TreeX P w b t) (hb : Below w.heap.size w w') : TreeX P w' b t := ⟨h.rad.stay hb, h.can, h.shr, h.lab⟩
/-- what Put answers -/
def PutResX (P : Nat → Prop) (b : Nat) (t : RX) (key value : ByteArray) (w : World) (e : Ending) (w' : World) : Prop :=
  ∃ (b' : Nat) (u : RX) (new : Bool), e = .returned (.tuple #[at0 b', .bool new]) ∧ (new = false ↔ ∃ v, (key.data.toList, v) ∈ body t) ∧ ((key.data.toList, value) ∈ body t → b' = b) ∧ TreeX P w' b' u ∧ InsX key.data.toList value t u ∧ Below w.heap.size w w'
set_option maxHeartbeats 2000000 in
theorem put_treeX (P : Nat → Prop) (b : Nat) (t : RX) (tv : Value) (key value : ByteArray) (w : World) (hd : DeadT w.heap.size w tv) (h : TreeX P w b t) (hP0 : ∀ y, w.heap.size ≤ y → P y) (hk : key.size ≤ 40) : Calls Try.prog 53 #[tv, at0 b, .agg #[.string key, .string value]] w (PutResX P b t key value w) := by
  have hB1 := (Below.refl _ w).alloc (Nat.le_refl _) (.cells #[.string key, .string value] 29)
  have hbx := Blk.new w 29 #[.string key, .string value]
  have hkg := get_any P b t key _ (h.rad.stay hB1) h.can (h.shr.more (by omega)) (by omega)
  have hd1 := hd.stay hB1
  obtain ⟨a, rfl⟩ := hd.form
  have p0 : (w.alloc (.cells #[.string key, .string value] 29)).cell? ⟨w.heap.size, 0, none⟩ = some (.string key) := hbx.cell 0
  have p1 : (w.alloc (.cells #[.string key, .string value] 29)).cell? ⟨w.heap.size, 1, none⟩ = some (.string value) := hbx.cell 1
  have HH := Lib.hid h
  have HD := Lib.hid hd
  clear h hd
  unfold at0 at hkg ⊢
  go_enter Try.func53, Try.ntmps53
  go_wp2_with fail
  refine hkg.mono ?_
  rintro e w1 ⟨o, rfl, ho, hB2⟩
  obtain ⟨N, hNe⟩ : ∃ N, N = w.heap.size := ⟨_, rfl⟩
  rw [← hNe] at hbx p0 p1 ⊢
  have hbx1 := hbx.stay hB2
  have q0 : w1.cell? ⟨N, 0, none⟩ = some (.string key) := hbx1.cell 0
  have q1 : w1.cell? ⟨N, 1, none⟩ = some (.string value) := hbx1.cell 1
  have hB12 := hB1.trans (hB2.mono hB1.size)
  have hd2 := hd1.stay hB2
  have HN := Lib.hid hNe
  have HO := Lib.hid ho
  have HB := Lib.hid hB12
  clear hkg p0 p1 hbx hd1 ho hNe hB1 hB2
  by_cases hsame : o = some value
  · subst hsame
    have hv : (value.toList == value.toList) = true := by simp
    go_wp2_with fail
    go_ret2
    have hm := (HO.out value).1 rfl
    refine ⟨b, t, false, rfl, ⟨fun _ => ⟨value, hm⟩, fun _ => rfl⟩, fun _ => rfl, HH.out.below HB.out, ins_same HH.out.can hm, HB.out⟩
  · have hnew : ∀ (V : ByteArray) (f : Bool), o.getD ⟨#[]⟩ = V → o.isSome = f → f = false ∨ (V.toList == value.toList) = false := by
      rintro V f rfl rfl
      cases o with
      | none => exact .inl rfl
      | some x =>
        right
        have hne : x ≠ value := fun e => hsame (by rw [e])
        have : x.toList ≠ value.toList := fun e => hne (bytes_ext (by rw [ByteArray.toList_eq, ByteArray.toList_eq] at e; exact e))
        simpa using this
    have hsome : ∀ f : Bool, o.isSome = f → (((!f) = false) ↔ ∃ v, (key.data.toList, v) ∈ body t) := by
      rintro f rfl
      cases o with
      | none => exact ⟨fun h => by simp at h, fun ⟨v, hv⟩ => by have := (HO.out v).2 hv; cases this⟩
      | some x => exact ⟨fun _ => ⟨x, (HO.out x).1 rfl⟩, fun _ => rfl⟩
    have hnot : ¬ (key.data.toList, value) ∈ body t := fun h => hsame ((HO.out value).2 h)
    obtain ⟨M, hMe⟩ : ∃ M, M = w1.heap.size := ⟨_, rfl⟩
    have hb104 : Blk (w1.alloc (.cells #[.pointer a] 126)) M 126 #[.pointer a] := by rw [hMe]; exact Blk.new w1 126 #[.pointer a]
    have hB2 : Below w1.heap.size w1 (w1.alloc (.cells #[.pointer a] 126)) := (Below.refl _ w1).alloc (Nat.le_refl _) _
    have HM := Lib.hid hMe
    have HNOT := Lib.hid hnot
    have HS := Lib.hid (hsome _ rfl)
    have hor := hnew _ _ rfl rfl
    generalize o.getD ⟨#[]⟩ = V at *
    generalize o.isSome = f at *
    have fin : ∀ (W : World) (e : Ending) (w' : World), Below w.heap.size w W → PutPost P W.heap.size false b t key.data.toList value W e w' → ∃ b' u, e = .returned (at0 b') ∧ TreeX P w' b' u ∧ InsX key.data.toList value t u ∧ Below W.heap.size W w' := by
      rintro W e w' hW ⟨b', u, rfl, -, hm, hcu, hlu, hiu, hBu⟩
      exact ⟨b', u, rfl, ⟨hm.rad (fun y hy => hP0 y (Nat.le_trans hW.size hy)), hcu, HH.out.shr.ins hiu (by rw [size_of]; exact hk), by rw [hlu]; exact HH.out.lab⟩, hiu, hBu⟩
    have hput : ∀ (W : World), Below w.heap.size w W → Calls Try.prog 83 #[.agg #[.pointer a], at0 b, .bool false, .string key, .string value] W fun e w' => ∃ b' u, e = .returned (at0 b') ∧ TreeX P w' b' u ∧ InsX key.data.toList value t u ∧ Below W.heap.size W w' := fun W hW =>
      (put_any key.size P W.heap.size b false t (.pointer a) key value W rfl ((HD.out.stay hW).up hW.size) (Nat.le_refl _) (.inr ⟨rfl, HH.out.rad.stay hW⟩) HH.out.can (fun y hy => hP0 y (Nat.le_trans hW.size hy)) (HH.out.shr.more (by omega)) (by omega)).mono fun e w' h => fin W e w' hW h
    have how : ∀ (W : World), Below w.heap.size w W → Calls Try.prog 85 #[at0 b, .pointer a] W fun e w' => e = .returned (.bool false) ∧ W = w' := fun W hW => owned_dead w.heap.size b (.pointer a) W (HD.out.stay hW)
    have HPUT := Lib.hid hput
    have HOW := Lib.hid how
    have hB13 := hB12.trans (hB2.mono hB12.size)
    have g0 : (w1.alloc (.cells #[.pointer a] 126)).cell? ⟨M, 0, none⟩ = some (.pointer a) := hb104.cell 0
    have g1 := (hB2.cell (World.block_lt_of_cell? w1 _ q0)).trans q0
    have g2 := (hB2.cell (World.block_lt_of_cell? w1 _ q1)).trans q1
    obtain ⟨W2, hW2⟩ : ∃ W2, W2 = w1.alloc (.cells #[.pointer a] 126) := ⟨_, rfl⟩
    rw [← hW2] at g0 g1 g2 hB13
    have HW2 := Lib.hid hW2
    have HB13 := Lib.hid hB13
    clear hnew hsome hnot hsame fin hput how hMe hB12 hB2 hbx1 hb104 hW2 hd2 HO
    rcases f with _ | _
    · clear hor
      go_wp2_with fail
      rw [← HM.out]
      rw [← HW2.out]
      go_wp2_with fail
      have hBd : Below w.heap.size w W2.drew := hB13.trans ((Below.refl _ W2).drew.mono hB13.size)
      go_region_held3 (fun w' : World => w'.cell? ⟨M, 0, none⟩ = some (.pointer a) ∧ w'.cell? ⟨N, 0, none⟩ = some (.string key) ∧ w'.cell? ⟨N, 1, none⟩ = some (.string value)) (first | exact ⟨g0, g1, g2⟩ | exact keepP3 (by assumption) hBu | go_keep) (first
        | (have _g := hOwn; clear _g; go_at_call 83; refine (HPUT.out _ hBd).mono ?_; rintro e w4 ⟨b', u, rfl, hTu, hiu, hBu⟩; unfold at0)
        | (go_at_call 85; refine (HOW.out _ hBd).mono ?_; rintro e w3 ⟨rfl, rfl⟩; have hOwn : True := trivial))
      go_wp2_with fail
      go_ret2
      exact ⟨b', u, _, rfl, HS.out, fun h => absurd h HNOT.out, hTu, hiu, hBd.trans (hBu.mono hBd.size)⟩
    · have hz : (V.toList == value.toList) = false := by
        rcases hor with h | h
        · cases h
        · exact h
      clear hor
      go_wp2_with fail
      rw [← HM.out]
      rw [← HW2.out]
      go_wp2_with fail
      have hBd : Below w.heap.size w W2.drew := hB13.trans ((Below.refl _ W2).drew.mono hB13.size)
      go_region_held3 (fun w' : World => w'.cell? ⟨M, 0, none⟩ = some (.pointer a) ∧ w'.cell? ⟨N, 0, none⟩ = some (.string key) ∧ w'.cell? ⟨N, 1, none⟩ = some (.string value)) (first | exact ⟨g0, g1, g2⟩ | exact keepP3 (by assumption) hBu | go_keep) (first
        | (have _g := hOwn; clear _g; go_at_call 83; refine (HPUT.out _ hBd).mono ?_; rintro e w4 ⟨b', u, rfl, hTu, hiu, hBu⟩; unfold at0)
        | (go_at_call 85; refine (HOW.out _ hBd).mono ?_; rintro e w3 ⟨rfl, rfl⟩; have hOwn : True := trivial))
      go_wp2_with fail
      go_ret2
      exact ⟨b', u, _, rfl, HS.out, fun h => absurd h HNOT.out, hTu, hiu, hBd.trans (hBu.mono hBd.size)⟩
/-- what Drop answers -/
def DropResX (P : Nat → Prop) (b : Nat) (t : RX) (key : ByteArray) (w : World) (e : Ending) (w' : World) : Prop :=
  ∃ (b' : Nat) (u : RX) (found : Bool), e = .returned (.tuple #[at0 b', .bool found]) ∧ (found = true ↔ ∃ v, (key.data.toList, v) ∈ body t) ∧ (found = false → b' = b) ∧ TreeX P w' b' u ∧ DelX key.data.toList t u ∧ Below w.heap.size w w'
set_option maxHeartbeats 2000000 in
theorem drop_treeX (P : Nat → Prop) (b : Nat) (t : RX) (tv : Value) (key : ByteArray) (w : World) (hd : DeadT w.heap.size w tv) (h : TreeX P w b t) (hP0 : ∀ y, w.heap.size ≤ y → P y) (hk : key.size ≤ 40) : Calls Try.prog 54 #[tv, at0 b, .string key] w (DropResX P b t key w) := by
  obtain ⟨a, rfl⟩ := hd.form
  have hB1 := (Below.refl _ w).alloc (Nat.le_refl _) (.cells #[.pointer a] 126)
  have hkg := get_any P b t key _ (h.rad.stay hB1) h.can (h.shr.more (by omega)) (by omega)
  have hb104 := Blk.new w 126 #[.pointer a]
  have HH := Lib.hid h
  have HD := Lib.hid hd
  clear h hd
  unfold at0 at hkg ⊢
  go_enter Try.func54, Try.ntmps54
  go_wp2_with fail
  refine hkg.mono ?_
  rintro e w1 ⟨o, rfl, ho, hB2⟩
  obtain ⟨M, hMe⟩ : ∃ M, M = w.heap.size := ⟨_, rfl⟩
  rw [← hMe] at hb104 ⊢
  have g0 : w1.cell? ⟨M, 0, none⟩ = some (.pointer a) := (hb104.stay hB2).cell 0
  have hB12 := hB1.trans (hB2.mono hB1.size)
  have hsome : ∀ f : Bool, o.isSome = f → (f = true ↔ ∃ v, (key.data.toList, v) ∈ body t) := by
    rintro f rfl
    cases o with
    | none => exact ⟨fun h => by simp at h, fun ⟨v, hv⟩ => by have := (ho v).2 hv; cases this⟩
    | some x => exact ⟨fun _ => ⟨x, (ho x).1 rfl⟩, fun _ => rfl⟩
  have HS := Lib.hid (hsome _ rfl)
  have HMM := Lib.hid hMe
  have HB := Lib.hid hB12
  generalize o.getD ⟨#[]⟩ = V at *
  generalize o.isSome = f at *
  clear hkg hMe hB1 hB2 hb104 ho hsome
  cases f with
  | false =>
    go_wp2_with fail
    go_ret2
    have hn : ¬ ∃ v, (key.data.toList, v) ∈ body t := fun h => by have := HS.out.2 h; cases this
    exact ⟨b, t, false, rfl, HS.out, fun _ => rfl, HH.out.below HB.out, del_same hn, HB.out⟩
  | true =>
    have hdrop : ∀ (W : World), Below w.heap.size w W → Calls Try.prog 86 #[.agg #[.pointer a], at0 b, .bool false, .string key] W fun e w' => ∃ b' u, e = .returned (at0 b') ∧ TreeX P w' b' u ∧ DelX key.data.toList t u ∧ Below W.heap.size W w' := fun W hW => by
      refine (drop_any key.size P W.heap.size b false t (.pointer a) key W rfl ((HD.out.stay hW).up hW.size) (Nat.le_refl _) (.inr ⟨rfl, HH.out.rad.stay hW⟩) HH.out.can (fun y hy => hP0 y (Nat.le_trans hW.size hy)) (HH.out.shr.more (by omega)) (by omega) (HS.out.1 rfl)).mono ?_
      rintro e w' ⟨b', u, rfl, hm, hcu, hlu, hiu, hBu⟩
      exact ⟨b', u, rfl, ⟨hm.rad (fun y hy => hP0 y (Nat.le_trans hW.size hy)), hcu, HH.out.shr.del hiu, by rw [hlu]; exact HH.out.lab⟩, hiu, hBu⟩
    have how : ∀ (W : World), Below w.heap.size w W → Calls Try.prog 85 #[at0 b, .pointer a] W fun e w' => e = .returned (.bool false) ∧ W = w' := fun W hW => owned_dead w.heap.size b (.pointer a) W (HD.out.stay hW)
    have HPUT := Lib.hid hdrop
    have HOW := Lib.hid how
    have hBd : Below w.heap.size w w1.drew := hB12.trans ((Below.refl _ w1).drew.mono hB12.size)
    clear hdrop how hB12
    go_wp2_with fail
    go_region_held3 (fun w' : World => w'.cell? ⟨M, 0, none⟩ = some (.pointer a)) (first | exact g0 | exact keep1 (by assumption) hBu | go_keep) (first
      | (have _g := hOwn; clear _g; go_at_call 86; refine (HPUT.out _ hBd).mono ?_; rintro e w4 ⟨b', u, rfl, hTu, hiu, hBu⟩; unfold at0)
      | (go_at_call 85; refine (HOW.out _ hBd).mono ?_; rintro e w3 ⟨rfl, rfl⟩; have hOwn : True := trivial))
    go_wp2_with fail
    go_ret2
    exact ⟨b', u, true, rfl, by simpa using HS.out, fun h => (by cases h), hTu, hiu, hBd.trans (hBu.mono hBd.size)⟩
/-- the kinds of a tree's blocks -/
theorem RadW.ty {P : Nat → Prop} {w : World} {b : Nat} {t : RX} (h : RadW P w b t) : RadW (fun x => P x ∧ ∀ ty cs, Blk w x ty cs → ty = 132 ∨ ty = 24) w b t := by
  refine RadW.ind_ (Q := fun b t => RadW (fun x => P x ∧ ∀ ty cs, Blk w x ty cs → ty = 132 ∨ ty = 24) w b t) (fun b t kv bs h1 h2 h3 h4 ih => ?_) h
  refine .mk h1 ⟨h2, fun ty cs hB => ?_⟩ (fun g hg => ⟨h3 g hg, fun ty cs hB => ?_⟩) ih
  · obtain ⟨o, lab, val, sh, hB', -⟩ := h1.blk
    unfold Blk at hB hB'
    rw [hB'] at hB
    simp at hB
    exact .inl hB.2.symm
  · obtain ⟨cur, hc⟩ := own_cells h1.row g hg
    unfold Blk at hB
    rw [hc] at hB
    simp at hB
    exact .inr hB.2.symm
/-- a tree of these pairs that keeps away from X -/
def TX (X : Nat → Prop) (w : World) (b : Nat) (ps : List Pr) : Prop := ∃ t, TreeX (fun x => ¬ X x) w b t ∧ prs t = ps ∧ ∀ p ∈ ps, p.2.size ≤ 40
section
variable {X X' : Nat → Prop} {w w' : World} {b : Nat} {ps : List Pr}
theorem TX.below (h : TX X w b ps) (hb : Below w.heap.size w w') : TX X w' b ps := by
  obtain ⟨t, h1, h2, h3⟩ := h
  exact ⟨t, h1.below hb, h2, h3⟩
theorem TX.pw (h : TX X w b ps) : PW w b ps := by
  obtain ⟨t, h1, h2, h3⟩ := h
  exact ⟨t, ⟨h1.rad.mono fun _ _ _ => trivial, h1.can, h1.shr, h1.lab⟩, h2, h3⟩
theorem TX.set (h : TX X w b ps) (hX : ∀ x, X' x → X x ∨ w.heap.size ≤ x ∨ ∃ t cs, Blk w x t cs ∧ t ≠ 132 ∧ t ≠ 24) : TX X' w b ps := by
  obtain ⟨t, h1, h2, h3⟩ := h
  refine ⟨t, ⟨h1.rad.ty.mono fun x hx hl hx' => ?_, h1.can, h1.shr, h1.lab⟩, h2, h3⟩
  rcases hX x hx' with h | h | ⟨ty, cs, hB, n1, n2⟩
  · exact hx.1 h
  · omega
  · rcases hx.2 ty cs hB with e | e
    · exact n1 e
    · exact n2 e
theorem PW.tx (h : PW w b ps) (hX : ∀ x, X' x → w.heap.size ≤ x ∨ ∃ t cs, Blk w x t cs ∧ t ≠ 132 ∧ t ≠ 24) : TX X' w b ps := by
  obtain ⟨t, h1, h2, h3⟩ := h
  have : TX (fun _ => False) w b ps := ⟨t, ⟨h1.rad.mono fun _ _ _ h => h, h1.can, h1.shr, h1.lab⟩, h2, h3⟩
  exact this.set fun x hx => .inr (hX x hx)
theorem TX.keep {Y : List Nat} (h : TX X w b ps) (hk : Keep Y w w') (hY : ∀ x ∈ Y, X x) : TX X w' b ps := by
  obtain ⟨t, h1, h2, h3⟩ := h
  exact ⟨t, ⟨h1.rad.keep hk fun x hx hm => hx (hY x hm), h1.can, h1.shr, h1.lab⟩, h2, h3⟩
theorem put_X (h : TX X w b ps) (hX : ∀ x, X x → x < w.heap.size) (tv : Value) (k v : ByteArray) (hd : DeadT w.heap.size w tv) (hk : k.size ≤ 40) (hv : v.size ≤ 40) :
    Calls Try.prog 53 #[tv, at0 b, .agg #[.string k, .string v]] w fun e w' => ∃ b', e = .returned (.tuple #[at0 b', .bool (getR ps k).isNone]) ∧ (getR ps k = some v → b' = b) ∧ TX X w' b' (putK ps (k, v)) ∧ Below w.heap.size w w' := by
  obtain ⟨t, h1, rfl, h3⟩ := h
  refine (put_treeX _ b t tv k v w hd h1 (fun y hy hx => by have := hX y hx; omega) hk).mono ?_
  rintro e w' ⟨b', u, new, rfl, hnew, hsame, hT, hins, hB⟩
  have hp : prs u = putK (prs t) (k, v) := prs_put (p := (k, v)) h1.can hT.can hins
  have hn : new = (getR (prs t) k).isNone := by
    cases hg : getR (prs t) k with
    | none =>
      cases new with
      | true => rfl
      | false => obtain ⟨v', hm⟩ := hnew.1 rfl; rw [(getR_prs h1.can).2 hm] at hg; cases hg
    | some v' => rw [hnew.2 ⟨v', (getR_prs h1.can).1 hg⟩]; rfl
  subst hn
  refine ⟨b', rfl, fun hg => hsame ((getR_prs h1.can).1 hg), ⟨u, hT, hp, fun p hpm => ?_⟩, hB⟩
  rw [← hp] at hpm
  rcases (hins _).1 (prs_mem.1 hpm) with e | ⟨hm, -⟩
  · have : p.2 = v := congrArg Prod.snd e
    rw [this]; exact hv
  · exact h3 p (prs_mem.2 hm)
theorem drop_X (h : TX X w b ps) (hX : ∀ x, X x → x < w.heap.size) (tv : Value) (k : ByteArray) (hd : DeadT w.heap.size w tv) (hk : k.size ≤ 40) :
    Calls Try.prog 54 #[tv, at0 b, .string k] w fun e w' => ∃ b', e = .returned (.tuple #[at0 b', .bool (getR ps k).isSome]) ∧ (getR ps k = none → b' = b) ∧ TX X w' b' (dropK ps k) ∧ Below w.heap.size w w' := by
  obtain ⟨t, h1, rfl, h3⟩ := h
  refine (drop_treeX _ b t tv k w hd h1 (fun y hy hx => by have := hX y hx; omega) hk).mono ?_
  rintro e w' ⟨b', u, found, rfl, hfound, hsame, hT, hdel, hB⟩
  have hp : prs u = dropK (prs t) k := prs_drop h1.can hT.can hdel
  have hn : found = (getR (prs t) k).isSome := by
    cases hg : getR (prs t) k with
    | none =>
      cases found with
      | false => rfl
      | true => obtain ⟨v', hm⟩ := hfound.1 rfl; rw [(getR_prs h1.can).2 hm] at hg; cases hg
    | some v' => rw [hfound.2 ⟨v', (getR_prs h1.can).1 hg⟩]; rfl
  subst hn
  refine ⟨b', rfl, fun hg => hsame (by rw [hg]; rfl), ⟨u, hT, hp, fun p hpm => ?_⟩, hB⟩
  rw [← hp] at hpm
  exact h3 p (prs_mem.2 ((hdel _).1 (prs_mem.1 hpm)).1)
end
end Go.Proofs.Ytimhdegdmdilaaa
/- The law's few: a pair of short strings. -/
namespace Go.Proofs.Ytimhdegdmdilaaa
open Go.RowKit Go.Lib
set_option linter.unusedVariables false
set_option maxRecDepth 100000
set_option linter.unnecessarySimpa false
set_option linter.unusedSimpArgs false
set_option linter.unnecessarySimpa false
set_option maxRecDepth 100000
def cut40 (s : ByteArray) : ByteArray := s.extract 0 40
theorem cut40_size (s : ByteArray) : (cut40 s).size ≤ 40 := by unfold cut40; rw [ByteArray.size_extract]; omega
theorem cut40_le {s : ByteArray} (h : s.size ≤ 40) : cut40 s = s := by
  unfold cut40
  apply bytes_ext
  simp
  exact List.take_of_length_le (by simpa using h)
theorem few_below (w : World) (a b : Value) : Below w.heap.size w ((w.alloc (.cells #[a, b] 29)).alloc (.cells #[a, b] 29)) := ((Below.refl _ w).alloc (Nat.le_refl _) _).alloc (by simp) _
theorem few_end (a b : Value) (tmps : Array Value) (ds : List Deferred) (w : World) (R : Ending → World → Prop) (ht : tmps[2]? = some (.pointer (some ⟨w.heap.size + 1, 0, none⟩))) (hds : ds = [])
    (h : R (.returned (.agg #[a, b])) ((w.alloc (.cells #[a, b] 29)).alloc (.cells #[a, b] 29))) : bodyPost Try.prog Try.f18 R .ret { tmps := tmps, defers := ds } ((w.alloc (.cells #[a, b] 29)).alloc (.cells #[a, b] 29)) := by
  subst hds
  refine bodyPost_ret (v := .agg #[a, b]) ?_ rfl h
  simp [results, Try.f18, go_sem, ht]
set_option maxHeartbeats 1000000 in
theorem few_any (k v : ByteArray) (w : World) : Calls Try.prog 18 #[.agg #[.string k, .string v]] w fun e w' => e = .returned (.agg #[.string (cut40 k), .string (cut40 v)]) ∧ Below w.heap.size w w' := by
  by_cases h1 : k.size ≤ 40
  · have e1 := Lib.hid (cut40_le h1)
    have l1 : ¬ ((k.size : Int) > 40) := by omega
    by_cases h2 : v.size ≤ 40
    · have e2 := Lib.hid (cut40_le h2)
      have l2 : ¬ ((v.size : Int) > 40) := by omega
      go_enter Try.func18, Try.ntmps18
      go_wp2_with fail
      refine few_end _ _ _ _ _ _ rfl rfl ⟨by rw [e1.out, e2.out], few_below _ _ _⟩
    · have e2 := Lib.hid (show cut40 v = v.extract 0 40 from rfl)
      have l2 : (v.size : Int) > 40 := by omega
      have l3 : 40 ≤ v.size := by omega
      go_enter Try.func18, Try.ntmps18
      go_wp2_with fail
      refine few_end _ _ _ _ _ _ rfl rfl ⟨by rw [e1.out, e2.out], few_below _ _ _⟩
  · have e1 := Lib.hid (show cut40 k = k.extract 0 40 from rfl)
    have l1 : (k.size : Int) > 40 := by omega
    have l3 : 40 ≤ k.size := by omega
    by_cases h2 : v.size ≤ 40
    · have e2 := Lib.hid (cut40_le h2)
      have l2 : ¬ ((v.size : Int) > 40) := by omega
      go_enter Try.func18, Try.ntmps18
      go_wp2_with fail
      refine few_end _ _ _ _ _ _ rfl rfl ⟨by rw [e1.out, e2.out], few_below _ _ _⟩
    · have e2 := Lib.hid (show cut40 v = v.extract 0 40 from rfl)
      have l2 : (v.size : Int) > 40 := by omega
      have l4 : 40 ≤ v.size := by omega
      go_enter Try.func18, Try.ntmps18
      go_wp2_with fail
      refine few_end _ _ _ _ _ _ rfl rfl ⟨by rw [e1.out, e2.out], few_below _ _ _⟩
end Go.Proofs.Ytimhdegdmdilaaa
/- Versions: roots and lists, side by side. -/
namespace Go.Proofs.Ytimhdegdmdilaaa
open Go.RowKit Go.Lib
set_option linter.unusedVariables false
set_option maxRecDepth 100000
set_option linter.unusedSimpArgs false
set_option linter.unnecessarySimpa false
set_option linter.unnecessarySimpa false
set_option maxRecDepth 100000
theorem keep_grown {w w' : World} {r : Option Nat} (hg : w.grownBy w' r) : Keep r.toList w w' := ⟨⟨hg.os, hg.tape, hg.output, hg.size, fun i hi => by omega⟩, fun i hi hx => hg.block i hi fun e => hx (by rw [← e]; simp)⟩
theorem blk_lt {w : World} {b : Nat} {o : Obj} (h : w.heap[b]? = some o) : b < w.heap.size := (Array.getElem?_eq_some_iff.1 h).1
theorem OwnR.below' {base : Nat} {w w' : World} {v : Value} {xs : List Pr} (h : OwnR base w v xs) (hb : Below w.heap.size w w') : OwnR base w' v xs := own_keep h (Keep.of_below (X := []) hb) (by simp)
theorem OwnR.nil (base : Nat) (w : World) : OwnR base w (.slice none 0 0) [] := ⟨rfl, .inl ⟨rfl, rfl⟩⟩
theorem Own.below {base : Nat} {w w' : World} {v : Value} {xs : List Pr} (h : Own base w v xs) (hb : Below w.heap.size w w') : Own base w' v xs := own_keep h (Keep.of_below (X := []) hb) (by simp)
theorem Blk.below {w w' : World} {g : Nat} {t : TypeId} {cs : Array Value} (h : Blk w g t cs) (hb : Below w.heap.size w w') : Blk w' g t cs := h.stay hb
theorem dmod {dd : Nat} (h : dd < 256) : (dd % 4 = 3 → IntKind.u8.wrap (Int.tmod (dd : Int) 4) = 3) ∧ (dd % 4 ≠ 3 → ¬ IntKind.u8.wrap (Int.tmod (dd : Int) 4) = 3) := by
  have e : IntKind.u8.wrap (Int.tmod (dd : Int) 4) = ((dd % 4 : Nat) : Int) := by
    have e1 : Int.tmod (dd : Int) 4 = ((dd % 4 : Nat) : Int) := by rw [Int.tmod_eq_emod_of_nonneg (by omega)]; omega
    rw [e1]
    unfold IntKind.wrap
    simp [IntKind.bits, IntKind.signed]
    omega
  rw [e]
  exact ⟨fun h => by omega, fun h => by omega⟩
theorem field0 (k u : ByteArray) (w : World) : (Instr.field 29 (.agg #[.string k, .string u]) 0).run Try.prog w = .ok (.string k) w := by
  kernel_rfl
theorem ins_lenR (p : Pr) : ∀ D : List Pr, (insK p D).length = D.length + 1
  | [] => by simp [insK]
  | q :: r => by
    unfold insK
    split
    · simp
    · simp [ins_lenR p r]
theorem put_lenR (ps : List Pr) (p : Pr) : (putK ps p).length ≤ ps.length + 1 := by
  unfold putK
  rw [ins_lenR]
  have := List.length_filter_le (fun q : Pr => !(q.1.toList == p.1.toList)) ps
  unfold dropK
  omega
theorem OwnR.rdc {base : Nat} {w : World} {v : Value} {xs : List Pr} (h : OwnR base w v xs) : ∃ A c, v = .slice A xs.length c ∧ Rd w A xs ∧ xs.length ≤ c := by
  obtain ⟨A, c, e, hR⟩ := h.rd
  refine ⟨A, c, e, hR, ?_⟩
  rcases h.2 with ⟨h1, h0⟩ | ⟨g, cap, cur, h1, _, _, hc, _⟩
  · omega
  · rw [h1] at e
    simp only [Value.slice.injEq] at e
    omega
def few40 (p : Pr) : Pr := (cut40 p.1, cut40 p.2)
end Go.Proofs.Ytimhdegdmdilaaa
/- Rows of pairs, of strings: mathematics. -/
namespace Go.Proofs.Ytimhdegdmdilaaa
open Go.RowKit Go.Lib
set_option linter.unusedVariables false
set_option maxRecDepth 100000
set_option linter.unnecessarySimpa false
set_option linter.unusedSimpArgs false
set_option linter.unnecessarySimpa false
set_option maxRecDepth 100000
section
variable {ps : List Pr}
theorem rises_key {x y : Pr} (h : RisesL ps) (hx : x ∈ ps) (hy : y ∈ ps) (e : x.1 = y.1) : x = y := by
  induction ps with
  | nil => simp at hx
  | cons q r ih =>
    have h1 := (List.pairwise_cons.1 h).1
    have h2 := (List.pairwise_cons.1 h).2
    rcases List.mem_cons.1 hx with rfl | hx' <;> rcases List.mem_cons.1 hy with rfl | hy'
    · rfl
    · exact absurd e (h1 y hy').ne
    · exact absurd e.symm (h1 x hx').ne
    · exact ih h2 hx' hy'
theorem put_sets {p x : Pr} : x ∈ putK ps p ↔ x = p ∨ (x ∈ ps ∧ x.1 ≠ p.1) := by
  unfold putK
  rw [ins_mem, drop_mem]
end
theorem rises_nil : RisesL [] := List.Pairwise.nil
theorem rises_ext : ∀ {xs ys : List Pr}, RisesL xs → RisesL ys → (∀ p, p ∈ xs ↔ p ∈ ys) → xs = ys
  | [], [], _, _, _ => rfl
  | [], y :: ys, _, _, h => by have := (h y).2 (by simp); simp at this
  | x :: xs, [], _, _, h => by have := (h x).1 (by simp); simp at this
  | x :: xs, y :: ys, hx, hy, h => by
    have x1 := (List.pairwise_cons.1 hx).1
    have x2 := (List.pairwise_cons.1 hx).2
    have y1 := (List.pairwise_cons.1 hy).1
    have y2 := (List.pairwise_cons.1 hy).2
    have e : x = y := by
      rcases List.mem_cons.1 ((h x).1 (by simp)) with e | hm
      · exact e
      · rcases List.mem_cons.1 ((h y).2 (by simp)) with e | hm'
        · exact e.symm
        · exact absurd ((y1 x hm).trans (x1 y hm')) (fun h => h.ne rfl)
    subst e
    rw [rises_ext x2 y2 fun p => ?_]
    constructor
    · intro hp
      rcases List.mem_cons.1 ((h p).1 (List.mem_cons_of_mem _ hp)) with e | hm
      · subst e; exact absurd (x1 p hp) (fun h => h.ne rfl)
      · exact hm
    · intro hp
      rcases List.mem_cons.1 ((h p).2 (List.mem_cons_of_mem _ hp)) with e | hm
      · subst e; exact absurd (y1 p hp) (fun h => h.ne rfl)
      · exact hm
theorem swap_mem {α : Type} {ks : List α} {i j : Nat} (hi : i < ks.length) (hj : j < ks.length) (k : α) : k ∈ (ks.set i ks[j]).set j ks[i] ↔ k ∈ ks := by
  constructor
  · intro h
    rcases List.mem_or_eq_of_mem_set h with h | rfl
    · rcases List.mem_or_eq_of_mem_set h with h | rfl
      · exact h
      · exact List.getElem_mem _
    · exact List.getElem_mem _
  · intro h
    obtain ⟨n, hn, e⟩ := List.getElem_of_mem h
    by_cases h1 : n = i
    · subst h1
      rw [List.mem_iff_getElem]
      exact ⟨j, by simpa using hj, by rw [List.getElem_set_self]; exact e⟩
    · by_cases h2 : n = j
      · subst h2
        rw [List.mem_iff_getElem]
        exact ⟨i, by simpa using hi, by rw [List.getElem_set_ne (by omega), List.getElem_set_self]; exact e⟩
      · rw [List.mem_iff_getElem]
        exact ⟨n, by simpa using hn, by rw [List.getElem_set_ne (by omega), List.getElem_set_ne (by omega)]; exact e⟩
theorem drop_key_mem {ps : List Pr} {k : ByteArray} {p : Pr} : p ∈ dropK ps k ↔ p ∈ ps ∧ p.1 ≠ k := drop_mem _ _ _
theorem pat_eq {xs : List Pr} {j : Nat} (h : j < xs.length) : pat xs j = xs[j] := by
  have := pat_get (xs := xs) (p := j) h
  rw [List.getElem?_eq_getElem h] at this
  exact (Option.some.inj this).symm
theorem sw_mem {xs : List Pr} {i j : Nat} (hi : i < xs.length) (hj : j < xs.length) (p : Pr) : p ∈ sw xs i j ↔ p ∈ xs := by
  unfold sw
  rw [pat_eq hi, pat_eq hj]
  exact swap_mem hi hj p
theorem rises_len : ∀ {R L : List Pr}, RisesL R → (∀ p ∈ R, p ∈ L) → R.length ≤ L.length
  | [], L, _, _ => by simp
  | x :: r, L, hr, h => by
    have h1 := (List.pairwise_cons.1 hr).1
    have h2 := (List.pairwise_cons.1 hr).2
    have hx := h x (by simp)
    have h3 := rises_len (L := L.filter fun p => decide (p.1 ≠ x.1)) h2 fun p hp => List.mem_filter.2 ⟨h p (by simp [hp]), by simpa using fun e => (h1 p hp).ne e.symm⟩
    have h4 : (L.filter fun p => decide (p.1 ≠ x.1)).length < L.length := List.length_filter_lt_length_iff_exists.2 ⟨x, hx, by simp⟩
    simp; omega
theorem norm_mem {xs R : List Pr} (h : IsNorm xs R) : ∀ p ∈ R, p ∈ xs := fun p hp => by
  have := (h.mem p).1 hp
  have h1 := List.mem_of_getLast? this
  unfold withKey at h1
  exact (List.mem_filter.1 h1).1
theorem isK_mem {S : List Pr} (k : ByteArray) (hr : RisesL S) : isK S k = true ↔ ∃ s ∈ S, s.1 = k := by
  constructor
  · intro h
    have hl := isK_ltR h
    exact ⟨pat S (posK S k), List.mem_of_getElem? (pat_get hl), by unfold isK at h; exact (of_decide_eq_true h).2⟩
  · rintro ⟨s, hs, rfl⟩
    exact isK_memR (v := s.2) hr hs
theorem argp_at {w wr : World} {a : Option Addr} {len cap : Nat} {ps : List Pr} (h : ArgP w a len cap ps) (hB : Below w.heap.size w wr) (j : Nat) (hj : j < len) :
    ∃ x : Addr, a = some x ∧ ps.length = len ∧ wr.cell? (x.add (j * 2)) = some (.string (pat ps j).1) ∧ wr.cell? ⟨(x.add (j * 2)).block, (x.add (j * 2)).off + 1, none⟩ = some (.string (pat ps j).2) := by
  rcases h with ⟨_, h, _⟩ | ⟨x, rfl, hl, hm, hz, hcell⟩
  · omega
  · have hp := pat_get (xs := ps) (p := j) (by omega)
    have hf := flat_get ps j _ hp
    have c0 := hcell _ _ hf.1
    have c1 := hcell _ _ hf.2
    exact ⟨x, rfl, hl, (hB.cell (World.block_lt_of_cell? w _ c0)).trans c0, by rw [show (⟨(x.add (j * 2)).block, (x.add (j * 2)).off + 1, none⟩ : Addr) = (x.add (j * 2)).add 1 from rfl, Addr.add_add]; exact (hB.cell (World.block_lt_of_cell? w _ c1)).trans c1⟩
theorem zsz_pr : (Value.cells (.agg #[.string ByteArray.empty, .string ByteArray.empty])).size = 2 := by simp [Value.cells]
/-- the keys that come and go -/
def gks (ps : List Pr) : List ByteArray := (ps.take 20).map fun q => (few40 q).1
theorem gks_len (ps : List Pr) : (gks ps).length ≤ 20 := by unfold gks; rw [List.length_map, List.length_take]; omega
theorem gks_at {ps : List Pr} {j : Nat} (h : j < 20) (hl : j < ps.length) : (gks ps)[j]? = some (few40 (pat ps j)).1 := by
  have := pat_get (xs := ps) (p := j) hl
  unfold gks
  rw [List.getElem?_map, List.getElem?_take, if_pos h, this]; rfl
theorem gks_drop {ps : List Pr} {j : Nat} {k : ByteArray} (h : (gks ps)[j]? = some k) {x : ByteArray} (hx : x ∈ (gks ps).drop j) : x = k ∨ x ∈ (gks ps).drop (j + 1) := by
  obtain ⟨hl, he⟩ := List.getElem?_eq_some_iff.1 h
  rw [List.drop_eq_getElem_cons hl] at hx
  rcases List.mem_cons.1 hx with hx | hx
  · exact .inl (hx.trans he)
  · exact .inr hx
end Go.Proofs.Ytimhdegdmdilaaa
/- Opening a list of pairs that was handed in. -/
namespace Go.Proofs.Ytimhdegdmdilaaa
open Go.ChangeShapes Go.WideShapes Go.RowKit Go.Lib Go.Deep
set_option linter.unusedVariables false
set_option maxRecDepth 100000
set_option maxRecDepth 100000
set_option linter.unusedSimpArgs false
set_option linter.unnecessarySimpa false
def strV : Value → ByteArray
  | .string s => s
  | _ => ByteArray.empty
theorem flat_map (n : Nat) (f : Nat → Pr) (j : Nat) (u : Value) (h : (flat ((List.range n).map f))[j]? = some u) : j / 2 < n ∧ ((j % 2 = 0 ∧ u = .string (f (j / 2)).1) ∨ (j % 2 = 1 ∧ u = .string (f (j / 2)).2)) := by
  have hl := (List.getElem?_eq_some_iff.1 h).1
  rw [flat_length, List.length_map, List.length_range] at hl
  have hp : ((List.range n).map f)[j / 2]? = some (f (j / 2)) := by rw [List.getElem?_map, List.getElem?_range (by omega)]; rfl
  have hf := flat_get _ _ _ hp
  refine ⟨by omega, ?_⟩
  rcases Nat.mod_two_eq_zero_or_one j with hm | hm
  · refine .inl ⟨hm, ?_⟩
    have ej : j / 2 * 2 = j := by omega
    rw [ej, h] at hf
    exact Option.some.inj hf.1
  · refine .inr ⟨hm, ?_⟩
    have ej : j / 2 * 2 + 1 = j := by omega
    rw [ej, h] at hf
    exact Option.some.inj hf.2
theorem fields33 : ∃ f0 f1, Try.prog.underlying 29 = some (.struct #[f0, f1]) ∧ f0.offset = 0 ∧ f1.offset = 1 ∧ f0.type = 9 ∧ f1.type = 9 := ⟨_, _, Try.underlying29, rfl, rfl, rfl, rfl⟩
theorem open_pairs {H : Type} {enc : TypeId × Value → H} {W : World} {base : Nat} {spare : Nat → Bool} {held : Bool} {a : Option Addr} {len cap : Nat} {d : DataW H} {p : List MemPlace}
    (h : DataW.Trod enc Try.prog W base spare held 22 (.slice a len cap) d p) : ∃ ps, ArgP W a len cap ps := by
  obtain ⟨fuel, hf⟩ := h
  obtain ⟨f0, f1, hu, o0, o1, t0, t1⟩ := fields33
  rcases open_slice_pairs Try.underlying22 hu (by kernel_rfl) o0 o1 (by rw [t0]; kernel_rfl) (by rw [t1]; kernel_rfl) hf with ⟨hcs, _⟩ | ⟨x, l, c, m, n, V0, V1, D0, D1, P0, P1, hcs, _, hl, hm, hmm, _, hc⟩
  · simp [Value.cells] at hcs
    obtain ⟨rfl, rfl, rfl⟩ := hcs
    exact ⟨[], .inl ⟨rfl, rfl, rfl, rfl⟩⟩
  · simp [Value.cells] at hcs
    obtain ⟨rfl, rfl, rfl⟩ := hcs
    have hlm : len ≤ m := by rw [hmm]; split <;> omega
    refine ⟨(List.range len).map fun i => (strV (V0 i), strV (V1 i)), .inr ⟨x, rfl, by simp, hl, hm, fun j u hj => ?_⟩⟩
    obtain ⟨hlt, hu'⟩ := flat_map len _ j u hj
    obtain ⟨e0, e1, g0, g1⟩ := hc (j / 2) (by omega)
    rw [t0] at g0
    rw [t1] at g1
    obtain ⟨s0, hs0, _⟩ := DataW.trod_string Try.underlying9 g0
    obtain ⟨s1, hs1, _⟩ := DataW.trod_string Try.underlying9 g1
    simp at hs0 hs1
    rcases hu' with ⟨hm2, rfl⟩ | ⟨hm2, rfl⟩
    · have ej : j / 2 * 2 = j := by omega
      rw [ej] at e0
      rw [e0, hs0]; rfl
    · have ej : j / 2 * 2 + 1 = j := by omega
      rw [ej] at e1
      rw [e1, hs1]; rfl
/-- a row of one's own, handed on -/
theorem Own.arg {base g cap : Nat} {w : World} {xs : List Pr} (h : Own base w (.slice (some ⟨g, 0, none⟩) xs.length cap) xs) : ArgP w (some ⟨g, 0, none⟩) xs.length cap xs := by
  obtain ⟨A, c, hv, hRd, _⟩ := h.rd
  simp at hv
  obtain ⟨rfl, rfl⟩ := hv
  have h' : w.ownsRow base 29 2 (.slice (some ⟨g, 0, none⟩) xs.length cap) xs.length (flat xs) := h
  rcases h'.2 with ⟨h1, _⟩ | ⟨g', cap', cur, h1, _, _, hc, hm, _⟩
  · cases h1
  · simp at h1
    obtain ⟨rfl, rfl⟩ := h1
    exact .inr ⟨_, rfl, rfl, hc, hm, hRd.cells⟩
end Go.Proofs.Ytimhdegdmdilaaa
