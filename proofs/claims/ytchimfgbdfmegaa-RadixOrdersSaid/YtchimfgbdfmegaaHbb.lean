/- Trees that keep away from some blocks. -/
import Derived.Test.YtchimfgbdfmegaaHba
import Derived.Test.YtchimfgbdfmegaaHag
import Derived.Test.YtchimfgbdfmegaaHad
namespace Go.Proofs.Ytchimfgbdfmegaa
open Go.RowKit Go.Lib
set_option linter.unusedVariables false
set_option linter.unnecessarySimpa false
set_option linter.unusedSimpArgs false
set_option linter.unnecessarySimpa false
set_option maxRecDepth 100000
/-- a tree, all its blocks P -/
structure TreeX (P : Nat → Prop) (w : World) (b : Nat) (t : RX) : Prop where
  rad : RadW P w b t
  can : Can t
  shr : Shrt 40 t
  lab : t.lab = []
theorem TreeX.below {P : Nat → Prop} {w w' : World} {b : Nat} {t : RX} (h : TreeX P w b t) (hb : Below w.heap.size w w') : TreeX P w' b t := ⟨h.rad.stay hb, h.can, h.shr, h.lab⟩
/-- what Put answers -/
def PutResX (P : Nat → Prop) (b : Nat) (t : RX) (key value : ByteArray) (w : World) (e : Ending) (w' : World) : Prop :=
  ∃ (b' : Nat) (u : RX) (new : Bool), e = .returned (.tuple #[at0 b', .bool new]) ∧ (new = false ↔ ∃ v, (key.data.toList, v) ∈ body t) ∧ ((key.data.toList, value) ∈ body t → b' = b) ∧ TreeX P w' b' u ∧ InsX key.data.toList value t u ∧ Below w.heap.size w w'
set_option maxHeartbeats 2000000 in
theorem put_treeX (P : Nat → Prop) (b : Nat) (t : RX) (tv : Value) (key value : ByteArray) (w : World) (hd : DeadT w.heap.size w tv) (h : TreeX P w b t) (hP0 : ∀ y, w.heap.size ≤ y → P y) (hk : key.size ≤ 40) : Calls Try.prog 20 #[tv, at0 b, .agg #[.string key, .string value]] w (PutResX P b t key value w) := by
  have hB1 := (Below.refl _ w).alloc (Nat.le_refl _) (.cells #[.string key, .string value] 34)
  have hbx := Blk.new w 34 #[.string key, .string value]
  have hkg := get_any P b t key _ (h.rad.stay hB1) h.can (h.shr.more (by omega)) (by omega)
  have hd1 := hd.stay hB1
  obtain ⟨a, rfl⟩ := hd.form
  have p0 : (w.alloc (.cells #[.string key, .string value] 34)).cell? ⟨w.heap.size, 0, none⟩ = some (.string key) := hbx.cell 0
  have p1 : (w.alloc (.cells #[.string key, .string value] 34)).cell? ⟨w.heap.size, 1, none⟩ = some (.string value) := hbx.cell 1
  have HH := Lib.hid h
  have HD := Lib.hid hd
  clear h hd
  unfold at0 at hkg ⊢
  go_enter Try.func20, Try.ntmps20
  go_wp2_with fail
  refine hkg.mono ?_
  rintro e w1 ⟨o, rfl, ho, hB2⟩
  obtain ⟨N, hNe⟩ : ∃ N, N = w.heap.size := ⟨_, rfl⟩
  rw [← hNe] at hbx p0 p1 ⊢
  have hbx1 := hbx.stay hB2
  have q0 : w1.cell? ⟨N, 0, none⟩ = some (.string key) := hbx1.cell 0
  have q1 : w1.cell? ⟨N, 1, none⟩ = some (.string value) := hbx1.cell 1
  have hB12 := hB1.trans (hB2.mono hB1.size)
  have hd2 := hd1.stay hB2
  have HN := Lib.hid hNe
  have HO := Lib.hid ho
  have HB := Lib.hid hB12
  clear hkg p0 p1 hbx hd1 ho hNe hB1 hB2
  by_cases hsame : o = some value
  · subst hsame
    have hv : (value.toList == value.toList) = true := by simp
    go_wp2_with fail
    go_ret2
    have hm := (HO.out value).1 rfl
    refine ⟨b, t, false, rfl, ⟨fun _ => ⟨value, hm⟩, fun _ => rfl⟩, fun _ => rfl, HH.out.below HB.out, ins_same HH.out.can hm, HB.out⟩
  · have hnew : ∀ (V : ByteArray) (f : Bool), o.getD ⟨#[]⟩ = V → o.isSome = f → f = false ∨ (V.toList == value.toList) = false := by
      rintro V f rfl rfl
      cases o with
      | none => exact .inl rfl
      | some x =>
        right
        have hne : x ≠ value := fun e => hsame (by rw [e])
        have : x.toList ≠ value.toList := fun e => hne (bytes_ext (by rw [ByteArray.toList_eq, ByteArray.toList_eq] at e; exact e))
        simpa using this
    have hsome : ∀ f : Bool, o.isSome = f → (((!f) = false) ↔ ∃ v, (key.data.toList, v) ∈ body t) := by
      rintro f rfl
      cases o with
      | none => exact ⟨fun h => by simp at h, fun ⟨v, hv⟩ => by have := (HO.out v).2 hv; cases this⟩
      | some x => exact ⟨fun _ => ⟨x, (HO.out x).1 rfl⟩, fun _ => rfl⟩
    have hnot : ¬ (key.data.toList, value) ∈ body t := fun h => hsame ((HO.out value).2 h)
    obtain ⟨M, hMe⟩ : ∃ M, M = w1.heap.size := ⟨_, rfl⟩
    have hb104 : Blk (w1.alloc (.cells #[.pointer a] 104)) M 104 #[.pointer a] := by rw [hMe]; exact Blk.new w1 104 #[.pointer a]
    have hB2 : Below w1.heap.size w1 (w1.alloc (.cells #[.pointer a] 104)) := (Below.refl _ w1).alloc (Nat.le_refl _) _
    have HM := Lib.hid hMe
    have HNOT := Lib.hid hnot
    have HS := Lib.hid (hsome _ rfl)
    have hor := hnew _ _ rfl rfl
    generalize o.getD ⟨#[]⟩ = V at *
    generalize o.isSome = f at *
    have fin : ∀ (W : World) (e : Ending) (w' : World), Below w.heap.size w W → PutPost P W.heap.size false b t key.data.toList value W e w' → ∃ b' u, e = .returned (at0 b') ∧ TreeX P w' b' u ∧ InsX key.data.toList value t u ∧ Below W.heap.size W w' := by
      rintro W e w' hW ⟨b', u, rfl, -, hm, hcu, hlu, hiu, hBu⟩
      exact ⟨b', u, rfl, ⟨hm.rad (fun y hy => hP0 y (Nat.le_trans hW.size hy)), hcu, HH.out.shr.ins hiu (by rw [size_of]; exact hk), by rw [hlu]; exact HH.out.lab⟩, hiu, hBu⟩
    have hput : ∀ (W : World), Below w.heap.size w W → Calls Try.prog 52 #[.agg #[.pointer a], at0 b, .bool false, .string key, .string value] W fun e w' => ∃ b' u, e = .returned (at0 b') ∧ TreeX P w' b' u ∧ InsX key.data.toList value t u ∧ Below W.heap.size W w' := fun W hW =>
      (put_any key.size P W.heap.size b false t (.pointer a) key value W rfl ((HD.out.stay hW).up hW.size) (Nat.le_refl _) (.inr ⟨rfl, HH.out.rad.stay hW⟩) HH.out.can (fun y hy => hP0 y (Nat.le_trans hW.size hy)) (HH.out.shr.more (by omega)) (by omega)).mono fun e w' h => fin W e w' hW h
    have how : ∀ (W : World), Below w.heap.size w W → Calls Try.prog 28 #[at0 b, .pointer a] W fun e w' => e = .returned (.bool false) ∧ W = w' := fun W hW => owned_dead w.heap.size b (.pointer a) W (HD.out.stay hW)
    have HPUT := Lib.hid hput
    have HOW := Lib.hid how
    have hB13 := hB12.trans (hB2.mono hB12.size)
    have g0 : (w1.alloc (.cells #[.pointer a] 104)).cell? ⟨M, 0, none⟩ = some (.pointer a) := hb104.cell 0
    have g1 := (hB2.cell (World.block_lt_of_cell? w1 _ q0)).trans q0
    have g2 := (hB2.cell (World.block_lt_of_cell? w1 _ q1)).trans q1
    obtain ⟨W2, hW2⟩ : ∃ W2, W2 = w1.alloc (.cells #[.pointer a] 104) := ⟨_, rfl⟩
    rw [← hW2] at g0 g1 g2 hB13
    have HW2 := Lib.hid hW2
    have HB13 := Lib.hid hB13
    clear hnew hsome hnot hsame fin hput how hMe hB12 hB2 hbx1 hb104 hW2 hd2 HO
    rcases f with _ | _
    · clear hor
      go_wp2_with fail
      rw [← HM.out]
      rw [← HW2.out]
      go_wp2_with fail
      have hBd : Below w.heap.size w W2.drew := hB13.trans ((Below.refl _ W2).drew.mono hB13.size)
      go_region_held3 (fun w' : World => w'.cell? ⟨M, 0, none⟩ = some (.pointer a) ∧ w'.cell? ⟨N, 0, none⟩ = some (.string key) ∧ w'.cell? ⟨N, 1, none⟩ = some (.string value)) (first | exact ⟨g0, g1, g2⟩ | exact keepP3 (by assumption) hBu | go_keep) (first
        | (have _g := hOwn; clear _g; go_at_call 52; refine (HPUT.out _ hBd).mono ?_; rintro e w4 ⟨b', u, rfl, hTu, hiu, hBu⟩; unfold at0)
        | (go_at_call 28; refine (HOW.out _ hBd).mono ?_; rintro e w3 ⟨rfl, rfl⟩; have hOwn : True := trivial))
      go_wp2_with fail
      go_ret2
      exact ⟨b', u, _, rfl, HS.out, fun h => absurd h HNOT.out, hTu, hiu, hBd.trans (hBu.mono hBd.size)⟩
    · have hz : (V.toList == value.toList) = false := by
        rcases hor with h | h
        · cases h
        · exact h
      clear hor
      go_wp2_with fail
      rw [← HM.out]
      rw [← HW2.out]
      go_wp2_with fail
      have hBd : Below w.heap.size w W2.drew := hB13.trans ((Below.refl _ W2).drew.mono hB13.size)
      go_region_held3 (fun w' : World => w'.cell? ⟨M, 0, none⟩ = some (.pointer a) ∧ w'.cell? ⟨N, 0, none⟩ = some (.string key) ∧ w'.cell? ⟨N, 1, none⟩ = some (.string value)) (first | exact ⟨g0, g1, g2⟩ | exact keepP3 (by assumption) hBu | go_keep) (first
        | (have _g := hOwn; clear _g; go_at_call 52; refine (HPUT.out _ hBd).mono ?_; rintro e w4 ⟨b', u, rfl, hTu, hiu, hBu⟩; unfold at0)
        | (go_at_call 28; refine (HOW.out _ hBd).mono ?_; rintro e w3 ⟨rfl, rfl⟩; have hOwn : True := trivial))
      go_wp2_with fail
      go_ret2
      exact ⟨b', u, _, rfl, HS.out, fun h => absurd h HNOT.out, hTu, hiu, hBd.trans (hBu.mono hBd.size)⟩
/-- what Drop answers -/
def DropResX (P : Nat → Prop) (b : Nat) (t : RX) (key : ByteArray) (w : World) (e : Ending) (w' : World) : Prop :=
  ∃ (b' : Nat) (u : RX) (found : Bool), e = .returned (.tuple #[at0 b', .bool found]) ∧ (found = true ↔ ∃ v, (key.data.toList, v) ∈ body t) ∧ (found = false → b' = b) ∧ TreeX P w' b' u ∧ DelX key.data.toList t u ∧ Below w.heap.size w w'
set_option maxHeartbeats 2000000 in
theorem drop_treeX (P : Nat → Prop) (b : Nat) (t : RX) (tv : Value) (key : ByteArray) (w : World) (hd : DeadT w.heap.size w tv) (h : TreeX P w b t) (hP0 : ∀ y, w.heap.size ≤ y → P y) (hk : key.size ≤ 40) : Calls Try.prog 18 #[tv, at0 b, .string key] w (DropResX P b t key w) := by
  obtain ⟨a, rfl⟩ := hd.form
  have hB1 := (Below.refl _ w).alloc (Nat.le_refl _) (.cells #[.pointer a] 104)
  have hkg := get_any P b t key _ (h.rad.stay hB1) h.can (h.shr.more (by omega)) (by omega)
  have hb104 := Blk.new w 104 #[.pointer a]
  have HH := Lib.hid h
  have HD := Lib.hid hd
  clear h hd
  unfold at0 at hkg ⊢
  go_enter Try.func18, Try.ntmps18
  go_wp2_with fail
  refine hkg.mono ?_
  rintro e w1 ⟨o, rfl, ho, hB2⟩
  obtain ⟨M, hMe⟩ : ∃ M, M = w.heap.size := ⟨_, rfl⟩
  rw [← hMe] at hb104 ⊢
  have g0 : w1.cell? ⟨M, 0, none⟩ = some (.pointer a) := (hb104.stay hB2).cell 0
  have hB12 := hB1.trans (hB2.mono hB1.size)
  have hsome : ∀ f : Bool, o.isSome = f → (f = true ↔ ∃ v, (key.data.toList, v) ∈ body t) := by
    rintro f rfl
    cases o with
    | none => exact ⟨fun h => by simp at h, fun ⟨v, hv⟩ => by have := (ho v).2 hv; cases this⟩
    | some x => exact ⟨fun _ => ⟨x, (ho x).1 rfl⟩, fun _ => rfl⟩
  have HS := Lib.hid (hsome _ rfl)
  have HMM := Lib.hid hMe
  have HB := Lib.hid hB12
  generalize o.getD ⟨#[]⟩ = V at *
  generalize o.isSome = f at *
  clear hkg hMe hB1 hB2 hb104 ho hsome
  cases f with
  | false =>
    go_wp2_with fail
    go_ret2
    have hn : ¬ ∃ v, (key.data.toList, v) ∈ body t := fun h => by have := HS.out.2 h; cases this
    exact ⟨b, t, false, rfl, HS.out, fun _ => rfl, HH.out.below HB.out, del_same hn, HB.out⟩
  | true =>
    have hdrop : ∀ (W : World), Below w.heap.size w W → Calls Try.prog 51 #[.agg #[.pointer a], at0 b, .bool false, .string key] W fun e w' => ∃ b' u, e = .returned (at0 b') ∧ TreeX P w' b' u ∧ DelX key.data.toList t u ∧ Below W.heap.size W w' := fun W hW => by
      refine (drop_any key.size P W.heap.size b false t (.pointer a) key W rfl ((HD.out.stay hW).up hW.size) (Nat.le_refl _) (.inr ⟨rfl, HH.out.rad.stay hW⟩) HH.out.can (fun y hy => hP0 y (Nat.le_trans hW.size hy)) (HH.out.shr.more (by omega)) (by omega) (HS.out.1 rfl)).mono ?_
      rintro e w' ⟨b', u, rfl, hm, hcu, hlu, hiu, hBu⟩
      exact ⟨b', u, rfl, ⟨hm.rad (fun y hy => hP0 y (Nat.le_trans hW.size hy)), hcu, HH.out.shr.del hiu, by rw [hlu]; exact HH.out.lab⟩, hiu, hBu⟩
    have how : ∀ (W : World), Below w.heap.size w W → Calls Try.prog 28 #[at0 b, .pointer a] W fun e w' => e = .returned (.bool false) ∧ W = w' := fun W hW => owned_dead w.heap.size b (.pointer a) W (HD.out.stay hW)
    have HPUT := Lib.hid hdrop
    have HOW := Lib.hid how
    have hBd : Below w.heap.size w w1.drew := hB12.trans ((Below.refl _ w1).drew.mono hB12.size)
    clear hdrop how hB12
    go_wp2_with fail
    go_region_held3 (fun w' : World => w'.cell? ⟨M, 0, none⟩ = some (.pointer a)) (first | exact g0 | exact keep1 (by assumption) hBu | go_keep) (first
      | (have _g := hOwn; clear _g; go_at_call 51; refine (HPUT.out _ hBd).mono ?_; rintro e w4 ⟨b', u, rfl, hTu, hiu, hBu⟩; unfold at0)
      | (go_at_call 28; refine (HOW.out _ hBd).mono ?_; rintro e w3 ⟨rfl, rfl⟩; have hOwn : True := trivial))
    go_wp2_with fail
    go_ret2
    exact ⟨b', u, true, rfl, by simpa using HS.out, fun h => (by cases h), hTu, hiu, hBd.trans (hBu.mono hBd.size)⟩
/-- the kinds of a tree's blocks -/
theorem RadW.ty {P : Nat → Prop} {w : World} {b : Nat} {t : RX} (h : RadW P w b t) : RadW (fun x => P x ∧ ∀ ty cs, Blk w x ty cs → ty = 101 ∨ ty = 30) w b t := by
  refine RadW.ind_ (Q := fun b t => RadW (fun x => P x ∧ ∀ ty cs, Blk w x ty cs → ty = 101 ∨ ty = 30) w b t) (fun b t kv bs h1 h2 h3 h4 ih => ?_) h
  refine .mk h1 ⟨h2, fun ty cs hB => ?_⟩ (fun g hg => ⟨h3 g hg, fun ty cs hB => ?_⟩) ih
  · obtain ⟨o, lab, val, sh, hB', -⟩ := h1.blk
    unfold Blk at hB hB'
    rw [hB'] at hB
    simp at hB
    exact .inl hB.2.symm
  · obtain ⟨cur, hc⟩ := own_cells h1.row g hg
    unfold Blk at hB
    rw [hc] at hB
    simp at hB
    exact .inr hB.2.symm
/-- a tree of these pairs that keeps away from X -/
def TX (X : Nat → Prop) (w : World) (b : Nat) (ps : List Pr) : Prop := ∃ t, TreeX (fun x => ¬ X x) w b t ∧ prs t = ps ∧ ∀ p ∈ ps, p.2.size ≤ 40
section
variable {X X' : Nat → Prop} {w w' : World} {b : Nat} {ps : List Pr}
theorem TX.below (h : TX X w b ps) (hb : Below w.heap.size w w') : TX X w' b ps := by
  obtain ⟨t, h1, h2, h3⟩ := h
  exact ⟨t, h1.below hb, h2, h3⟩
theorem TX.pw (h : TX X w b ps) : PW w b ps := by
  obtain ⟨t, h1, h2, h3⟩ := h
  exact ⟨t, ⟨h1.rad.mono fun _ _ _ => trivial, h1.can, h1.shr, h1.lab⟩, h2, h3⟩
theorem TX.set (h : TX X w b ps) (hX : ∀ x, X' x → X x ∨ w.heap.size ≤ x ∨ ∃ t cs, Blk w x t cs ∧ t ≠ 101 ∧ t ≠ 30) : TX X' w b ps := by
  obtain ⟨t, h1, h2, h3⟩ := h
  refine ⟨t, ⟨h1.rad.ty.mono fun x hx hl hx' => ?_, h1.can, h1.shr, h1.lab⟩, h2, h3⟩
  rcases hX x hx' with h | h | ⟨ty, cs, hB, n1, n2⟩
  · exact hx.1 h
  · omega
  · rcases hx.2 ty cs hB with e | e
    · exact n1 e
    · exact n2 e
theorem PW.tx (h : PW w b ps) (hX : ∀ x, X' x → w.heap.size ≤ x ∨ ∃ t cs, Blk w x t cs ∧ t ≠ 101 ∧ t ≠ 30) : TX X' w b ps := by
  obtain ⟨t, h1, h2, h3⟩ := h
  have : TX (fun _ => False) w b ps := ⟨t, ⟨h1.rad.mono fun _ _ _ h => h, h1.can, h1.shr, h1.lab⟩, h2, h3⟩
  exact this.set fun x hx => .inr (hX x hx)
theorem TX.keep {Y : List Nat} (h : TX X w b ps) (hk : Keep Y w w') (hY : ∀ x ∈ Y, X x) : TX X w' b ps := by
  obtain ⟨t, h1, h2, h3⟩ := h
  exact ⟨t, ⟨h1.rad.keep hk fun x hx hm => hx (hY x hm), h1.can, h1.shr, h1.lab⟩, h2, h3⟩
theorem put_X (h : TX X w b ps) (hX : ∀ x, X x → x < w.heap.size) (tv : Value) (k v : ByteArray) (hd : DeadT w.heap.size w tv) (hk : k.size ≤ 40) (hv : v.size ≤ 40) :
    Calls Try.prog 20 #[tv, at0 b, .agg #[.string k, .string v]] w fun e w' => ∃ b', e = .returned (.tuple #[at0 b', .bool (getR ps k).isNone]) ∧ (getR ps k = some v → b' = b) ∧ TX X w' b' (putK ps (k, v)) ∧ Below w.heap.size w w' := by
  obtain ⟨t, h1, rfl, h3⟩ := h
  refine (put_treeX _ b t tv k v w hd h1 (fun y hy hx => by have := hX y hx; omega) hk).mono ?_
  rintro e w' ⟨b', u, new, rfl, hnew, hsame, hT, hins, hB⟩
  have hp : prs u = putK (prs t) (k, v) := prs_put (p := (k, v)) h1.can hT.can hins
  have hn : new = (getR (prs t) k).isNone := by
    cases hg : getR (prs t) k with
    | none =>
      cases new with
      | true => rfl
      | false => obtain ⟨v', hm⟩ := hnew.1 rfl; rw [(getR_prs h1.can).2 hm] at hg; cases hg
    | some v' => rw [hnew.2 ⟨v', (getR_prs h1.can).1 hg⟩]; rfl
  subst hn
  refine ⟨b', rfl, fun hg => hsame ((getR_prs h1.can).1 hg), ⟨u, hT, hp, fun p hpm => ?_⟩, hB⟩
  rw [← hp] at hpm
  rcases (hins _).1 (prs_mem.1 hpm) with e | ⟨hm, -⟩
  · have : p.2 = v := congrArg Prod.snd e
    rw [this]; exact hv
  · exact h3 p (prs_mem.2 hm)
theorem drop_X (h : TX X w b ps) (hX : ∀ x, X x → x < w.heap.size) (tv : Value) (k : ByteArray) (hd : DeadT w.heap.size w tv) (hk : k.size ≤ 40) :
    Calls Try.prog 18 #[tv, at0 b, .string k] w fun e w' => ∃ b', e = .returned (.tuple #[at0 b', .bool (getR ps k).isSome]) ∧ (getR ps k = none → b' = b) ∧ TX X w' b' (dropK ps k) ∧ Below w.heap.size w w' := by
  obtain ⟨t, h1, rfl, h3⟩ := h
  refine (drop_treeX _ b t tv k w hd h1 (fun y hy hx => by have := hX y hx; omega) hk).mono ?_
  rintro e w' ⟨b', u, found, rfl, hfound, hsame, hT, hdel, hB⟩
  have hp : prs u = dropK (prs t) k := prs_drop h1.can hT.can hdel
  have hn : found = (getR (prs t) k).isSome := by
    cases hg : getR (prs t) k with
    | none =>
      cases found with
      | false => rfl
      | true => obtain ⟨v', hm⟩ := hfound.1 rfl; rw [(getR_prs h1.can).2 hm] at hg; cases hg
    | some v' => rw [hfound.2 ⟨v', (getR_prs h1.can).1 hg⟩]; rfl
  subst hn
  refine ⟨b', rfl, fun hg => hsame (by rw [hg]; rfl), ⟨u, hT, hp, fun p hpm => ?_⟩, hB⟩
  rw [← hp] at hpm
  exact h3 p (prs_mem.2 ((hdel _).1 (prs_mem.1 hpm)).1)
end
end Go.Proofs.Ytchimfgbdfmegaa
/- Versions: roots and lists, side by side. -/
namespace Go.Proofs.Ytchimfgbdfmegaa
open Go.RowKit Go.Lib
set_option linter.unusedVariables false
set_option linter.unusedSimpArgs false
set_option linter.unnecessarySimpa false
set_option linter.unnecessarySimpa false
set_option maxRecDepth 100000
theorem keep_grown {w w' : World} {r : Option Nat} (hg : w.grownBy w' r) : Keep r.toList w w' := ⟨⟨hg.os, hg.tape, hg.output, hg.size, fun i hi => by omega⟩, fun i hi hx => hg.block i hi fun e => hx (by rw [← e]; simp)⟩
theorem blk_lt {w : World} {b : Nat} {o : Obj} (h : w.heap[b]? = some o) : b < w.heap.size := (Array.getElem?_eq_some_iff.1 h).1
theorem OwnR.below' {base : Nat} {w w' : World} {v : Value} {xs : List Pr} (h : OwnR base w v xs) (hb : Below w.heap.size w w') : OwnR base w' v xs := own_keep h (Keep.of_below (X := []) hb) (by simp)
theorem OwnR.nil (base : Nat) (w : World) : OwnR base w (.slice none 0 0) [] := ⟨rfl, .inl ⟨rfl, rfl⟩⟩
theorem Own.below {base : Nat} {w w' : World} {v : Value} {xs : List Pr} (h : Own base w v xs) (hb : Below w.heap.size w w') : Own base w' v xs := own_keep h (Keep.of_below (X := []) hb) (by simp)
/-- a version: its root, the slice of its pairs, and these -/
structure Ver where
  b : Nat
  v : Value
  ps : List Pr
def atBlk (v : Value) : Nat → Prop := fun x => v.ownBlock = some x
structure VR (base : Nat) (W : World) (v5 v6 : Value) (bs : List Nat) (ls : List Value) (ts : List (Nat × List Pr)) (us : List (Value × List Pr)) : Prop where
  r5 : W.ownsRow base 30 1 v5 bs.length (kcs bs)
  r6 : W.ownsRow base 32 1 v6 ls.length ls
  eT : ∀ e ∈ ts, TX (atBlk v5) W e.1 e.2
  eL : ∀ e ∈ us, OwnR base W e.1 e.2
  hb : base ≤ W.heap.size
section
variable {base : Nat} {W W' : World} {v5 v6 : Value} {bs : List Nat} {ls : List Value} {ts : List (Nat × List Pr)} {us : List (Value × List Pr)}
theorem VR.below (h : VR base W v5 v6 bs ls ts us) (hb : Below W.heap.size W W') : VR base W' v5 v6 bs ls ts us :=
  ⟨own_keep h.r5 (Keep.of_below (X := []) hb) (by simp), own_keep h.r6 (Keep.of_below (X := []) hb) (by simp), fun e he => (h.eT e he).below hb, fun e he => (h.eL e he).below' hb, Nat.le_trans h.hb hb.size⟩
theorem VR.addT (h : VR base W v5 v6 bs ls ts us) {b : Nat} {ps : List Pr} (hT : TX (atBlk v5) W b ps) : VR base W v5 v6 bs ls (ts ++ [(b, ps)]) us :=
  ⟨h.r5, h.r6, fun e he => by
    rcases List.mem_append.1 he with he | he
    · exact h.eT e he
    · rw [List.mem_singleton] at he; rw [he]; exact hT, h.eL, h.hb⟩
theorem VR.addL (h : VR base W v5 v6 bs ls ts us) {v : Value} {ps : List Pr} (hL : OwnR base W v ps) : VR base W v5 v6 bs ls ts (us ++ [(v, ps)]) :=
  ⟨h.r5, h.r6, h.eT, fun e he => by
    rcases List.mem_append.1 he with he | he
    · exact h.eL e he
    · rw [List.mem_singleton] at he; rw [he]; exact hL, h.hb⟩
theorem VR.xlt (h : VR base W v5 v6 bs ls ts us) : ∀ x, atBlk v5 x → x < W.heap.size := fun x hx => by
  obtain ⟨cur, hc⟩ := own_cells h.r5 x hx
  exact blk_lt hc
theorem VR.grow5 {g cap b : Nat} (h : VR base W v5 v6 bs ls ts us) (hg : W.grownBy W' v5.ownBlock) (ho : W'.ownsRow base 30 1 (.slice (some ⟨g, 0, none⟩) (bs.length + 1) cap) (bs.length + 1) (kcs bs ++ [at0 b])) (ha : v5.ownBlock = some g ∨ g = W.heap.size) :
    VR base W' (.slice (some ⟨g, 0, none⟩) (bs.length + 1) cap) v6 (bs ++ [b]) ls ts us := by
  have kk := keep_grown hg
  have hty : ∀ x, v5.ownBlock = some x → ∃ cs, Blk W x 30 cs := fun x hx => own_cells h.r5 x hx
  refine ⟨?_, own_keep h.r6 kk fun x hx e => ?_, fun e he => ?_, fun e he => own_keep (h.eL e he) kk fun x hx e' => ?_, Nat.le_trans h.hb hg.size⟩
  · rw [List.length_append]
    have e1 : kcs (bs ++ [b]) = kcs bs ++ [at0 b] := by simp [kcs]
    rw [e1]; exact ho
  · obtain ⟨cs, hc⟩ := hty x (by simpa using hx)
    obtain ⟨cur, hc2⟩ := own_cells h.r6 x e
    unfold Blk at hc
    rw [hc2] at hc; simp at hc
  · have t1 : TX (fun x => atBlk v5 x ∨ W.heap.size ≤ x) W e.1 e.2 := (h.eT e he).set fun x hx => by
      rcases hx with hx | hx
      · exact .inl hx
      · exact .inr (.inl hx)
    have t2 := t1.keep kk fun x hx => .inl (by simpa [atBlk] using hx)
    exact t2.set fun x hx => .inl (by
      unfold atBlk at hx
      simp [Value.ownBlock] at hx
      subst hx
      rcases ha with ha | ha
      · exact .inl ha
      · exact .inr (by omega))
  · obtain ⟨cs, hc⟩ := hty x (by simpa using hx)
    obtain ⟨cur, hc2⟩ := own_cells (h.eL e he) x e'
    unfold Blk at hc
    rw [hc2] at hc; simp at hc
theorem VR.grow6 {g cap : Nat} {u : Value} (h : VR base W v5 v6 bs ls ts us) (hg : W.grownBy W' v6.ownBlock) (ho : W'.ownsRow base 32 1 (.slice (some ⟨g, 0, none⟩) (ls.length + 1) cap) (ls.length + 1) (ls ++ [u])) :
    VR base W' v5 (.slice (some ⟨g, 0, none⟩) (ls.length + 1) cap) bs (ls ++ [u]) ts us := by
  have kk := keep_grown hg
  have hty : ∀ x, v6.ownBlock = some x → ∃ cs, Blk W x 32 cs := fun x hx => own_cells h.r6 x hx
  refine ⟨own_keep h.r5 kk fun x hx e => ?_, ?_, fun e he => ?_, fun e he => own_keep (h.eL e he) kk fun x hx e' => ?_, Nat.le_trans h.hb hg.size⟩
  · obtain ⟨cs, hc⟩ := hty x (by simpa using hx)
    obtain ⟨cur, hc2⟩ := own_cells h.r5 x e
    unfold Blk at hc
    rw [hc2] at hc; simp at hc
  · rw [List.length_append]; exact ho
  · have t1 : TX (fun x => atBlk v5 x ∨ atBlk v6 x) W e.1 e.2 := (h.eT e he).set fun x hx => by
      rcases hx with hx | hx
      · exact .inl hx
      · obtain ⟨cs, hc⟩ := hty x hx
        exact .inr (.inr ⟨32, cs, hc, by decide, by decide⟩)
    have t2 := t1.keep kk fun x hx => .inr (by simpa [atBlk] using hx)
    exact t2.set fun x hx => .inl (.inl hx)
  · obtain ⟨cs, hc⟩ := hty x (by simpa using hx)
    obtain ⟨cur, hc2⟩ := own_cells (h.eL e he) x e'
    unfold Blk at hc
    rw [hc2] at hc; simp at hc
/-- other blocks, beside the two rows -/
theorem VR.far5 (h : VR base W v5 v6 bs ls ts us) (hg : W.grownBy W' v5.ownBlock) {b : Nat} {t : TypeId} {cs : Array Value} (hB : Blk W b t cs) (ht : t ≠ 30) : Blk W' b t cs := hB.keep (keep_grown hg) fun hm => by
  obtain ⟨cs', hc⟩ := own_cells h.r5 b (by simpa using hm)
  unfold Blk at hB
  rw [hc] at hB; simp at hB; exact ht hB.2.symm
theorem VR.far6 (h : VR base W v5 v6 bs ls ts us) (hg : W.grownBy W' v6.ownBlock) {b : Nat} {t : TypeId} {cs : Array Value} (hB : Blk W b t cs) (ht : t ≠ 32) : Blk W' b t cs := hB.keep (keep_grown hg) fun hm => by
  obtain ⟨cs', hc⟩ := own_cells h.r6 b (by simpa using hm)
  unfold Blk at hB
  rw [hc] at hB; simp at hB; exact ht hB.2.symm
end
def VersR (base : Nat) (W : World) (v5 v6 : Value) (vs : List Ver) : Prop := VR base W v5 v6 (vs.map (·.b)) (vs.map (·.v)) (vs.map fun e => (e.b, e.ps)) (vs.map fun e => (e.v, e.ps))
theorem VersR.snoc {base : Nat} {W : World} {v5 v6 : Value} {vs : List Ver} {e : Ver} (h : VR base W v5 v6 (vs.map (·.b) ++ [e.b]) (vs.map (·.v) ++ [e.v]) (vs.map (fun e => (e.b, e.ps)) ++ [(e.b, e.ps)]) (vs.map (fun e => (e.v, e.ps)) ++ [(e.v, e.ps)])) : VersR base W v5 v6 (vs ++ [e]) := by
  unfold VersR
  simpa using h
theorem infoT6 : (Try.prog.info? 32).map (fun i => (i.zero, i.size, i.bytes)) = some (some (.slice none 0 0), 1, 24) := by kernel_rfl
theorem infoT5 : (Try.prog.info? 30).map (fun i => (i.zero, i.size, i.bytes)) = some (some (.pointer none), 1, 8) := by kernel_rfl
theorem zsz_ptr : (Value.cells (.pointer none)).size = 1 := by simp [Value.cells]
theorem zsz_sl : (Value.cells (.slice none 0 0)).size = 1 := by simp [Value.cells]
theorem row_at {w : World} {base t n : Nat} {v : Value} {xs : List Value} (h : w.ownsRow base t 1 v n xs) (j : Nat) (hj : j < n) (u : Value) (hu : xs[j]? = some u) : ∃ g cap, v = .slice (some ⟨g, 0, none⟩) n cap ∧ w.cell? ⟨g, j, none⟩ = some u := by
  obtain ⟨g, cap, cur, e, -⟩ := own_blk h (by omega)
  subst e
  refine ⟨g, cap, rfl, ?_⟩
  rw [h.cellAt _ (by have := h.1; omega)]
  exact hu
section
variable {P : Program} {ops : Array Oper} {Q : Exit → Act → World → Prop} {md : Region.Mode} {S : World → Prop} {st mid : Nat}
theorem wpAnyL_first2 {i : Nat} {oi : Oper} {v : Value} (hi : ops[i]? = some oi) (hsel : ∀ (j : Nat) (o : Oper) cs b, ops[j]? = some o → o.op ≠ .select cs b)
    (hQ : ∀ c a w, Q (.panic c) (a.put oi.dst v) w → Q (.panic c) a w) (hne : i ≠ st) (hw1 : waits md ops mid i = true) (hw2 : waits md ops st mid = true) :
    ∀ (fuel : Nat) (listed : Array Bool) (a : Act) (w : World),
      (∀ j oj, ops[j]? = some oj → j ≠ i → listed.getD j true = false → (∀ e ∈ oj.after, Region.binds md e = true → e.on ≠ i) → oi.apart ops oj = true) →
      i ∈ Region.ready md ops listed → listed.getD st true = false → listed.getD mid true = false → YieldsIf P ops S oi v a → S w →
      wpAnyL P md ops Q S st fuel (listed.setIfInBounds i true) (a.put oi.dst v) w → wpAnyL P md ops Q S st (fuel + 1) listed a w := by
  intro fuel
  induction fuel with
  | zero =>
    intro listed a w _ hr hst hmid hy hS H
    refine ⟨fun h => (by rw [h] at hr; cases hr), fun j hj => ?_⟩
    by_cases hji : j = i
    · subst hji; exact hy.wpOp hi hS ⟨fun _ => hS, H⟩
    · have := ready_mono hj hji
      rw [H.1] at this
      cases this
  | succ fuel ih =>
    intro listed a w hfree hr hst hmid hy hS H
    refine ⟨fun h => (by rw [h] at hr; cases hr), fun j hj => ?_⟩
    have h0 := (mem_ready.1 hr).1
    by_cases hji : j = i
    · subst hji; exact hy.wpOp hi hS ⟨fun _ => hS, H⟩
    · have hjs : j ≠ st := by
        rintro rfl
        exact waits_not hw2 hmid hj
      have hjm : j ≠ mid := by
        rintro rfl
        exact waits_not hw1 (by simpa using h0) hj
      have h1 := H.2 j (ready_mono hj hji)
      obtain ⟨hjun, oj, hoj, hall⟩ := mem_ready.1 hj
      have hnot : ∀ e ∈ oj.after, Region.binds md e = true → e.on ≠ i := fun e he hb heq => by
        have h1 := hall e he hb
        rw [heq] at h1
        rcases Nat.lt_or_ge i listed.size with h' | h'
        · simp [h'] at h0 h1; rw [h0] at h1; cases h1
        · simp [Array.getElem?_eq_none h'] at h1
      have h2 := wpOp_putIf hoj (hfree j oj hoj hji hjun hnot) (fun cs b => hsel i oi cs b hi) (fun cs b => hsel j oj cs b hoj) hQ hy h1
      have hfree' : ∀ k ok, ops[k]? = some ok → k ≠ i → (listed.setIfInBounds j true).getD k true = false →
          (∀ e ∈ ok.after, Region.binds md e = true → e.on ≠ i) → oi.apart ops ok = true := fun k ok hk hki hun hno => by
        refine hfree k ok hk hki ?_ hno
        by_cases hjk : j = k
        · subst hjk; exact hjun
        · rw [getD_set_ne true hjk] at hun; exact hun
      have hst2 : (listed.setIfInBounds j true).getD st true = false := by rw [getD_set_ne true hjs]; exact hst
      have hmid2 : (listed.setIfInBounds j true).getD mid true = false := by rw [getD_set_ne true hjm]; exact hmid
      have hst3 : ((listed.setIfInBounds i true).setIfInBounds j true).getD st true = false := by rw [getD_set_ne true hjs, getD_set_ne true hne]; exact hst
      refine wpOp_mono (fun a' w' h3 => ⟨fun _ => h3.2.1 hst3, ih (listed.setIfInBounds j true) a' w' hfree' (ready_mono hr (Ne.symm hji)) hst2 hmid2 h3.1 (h3.2.1 hst3) ?_⟩) h2
      rw [Array.setIfInBounds_comm _ _ hji]
      exact h3.2.2
/-- a read for which an operation waits that st waits for -/
theorem wpAnyL_take2 {i : Nat} {oi : Oper} {v : Value} {fuel : Nat} {listed : Array Bool} {a : Act} {w : World} (mid : Nat) (hi : ops[i]? = some oi)
    (hs : Region.noSelect ops = true) (hf : Region.free md ops listed i = true) (hr : (Region.ready md ops listed).contains i = true)
    (hk : (decide (i ≠ st) && waits md ops mid i && waits md ops st mid && !(listed.getD st true) && !(listed.getD mid true)) = true)
    (hQ : ∀ c a w, Q (.panic c) (a.put oi.dst v) w → Q (.panic c) a w) (hS : S w) (hy : YieldsIf P ops S oi v a)
    (h : wpAnyL P md ops Q S st fuel (listed.setIfInBounds i true) (a.put oi.dst v) w) : wpAnyL P md ops Q S st (fuel + 1) listed a w := by
  simp only [Bool.and_eq_true, decide_eq_true_eq, Bool.not_eq_true'] at hk
  exact wpAnyL_first2 hi (Region.noSelect_spec hs) hQ hk.1.1.1.1 hk.1.1.1.2 hk.1.1.2 fuel listed a w (Region.free_spec hi hf) (by simpa using hr) hk.1.2 hk.2 hy hS h
end
theorem dmod {dd : Nat} (h : dd < 256) : (dd % 4 = 3 → IntKind.u8.wrap (Int.tmod (dd : Int) 4) = 3) ∧ (dd % 4 ≠ 3 → ¬ IntKind.u8.wrap (Int.tmod (dd : Int) 4) = 3) := by
  have e : IntKind.u8.wrap (Int.tmod (dd : Int) 4) = ((dd % 4 : Nat) : Int) := by
    have e1 : Int.tmod (dd : Int) 4 = ((dd % 4 : Nat) : Int) := by rw [Int.tmod_eq_emod_of_nonneg (by omega)]; omega
    rw [e1]
    unfold IntKind.wrap
    simp [IntKind.bits, IntKind.signed]
    omega
  rw [e]
  exact ⟨fun h => by omega, fun h => by omega⟩
theorem field0 (k u : ByteArray) (w : World) : (Instr.field 34 (.agg #[.string k, .string u]) 0).run Try.prog w = .ok (.string k) w := by
  kernel_rfl
theorem ins_lenR (p : Pr) : ∀ D : List Pr, (insK p D).length = D.length + 1
  | [] => by simp [insK]
  | q :: r => by
    unfold insK
    split
    · simp
    · simp [ins_lenR p r]
theorem put_lenR (ps : List Pr) (p : Pr) : (putK ps p).length ≤ ps.length + 1 := by
  unfold putK
  rw [ins_lenR]
  have := List.length_filter_le (fun q : Pr => !(q.1.toList == p.1.toList)) ps
  unfold dropK
  omega
theorem OwnR.rdc {base : Nat} {w : World} {v : Value} {xs : List Pr} (h : OwnR base w v xs) : ∃ A c, v = .slice A xs.length c ∧ Rd w A xs ∧ xs.length ≤ c := by
  obtain ⟨A, c, e, hR⟩ := h.rd
  refine ⟨A, c, e, hR, ?_⟩
  rcases h.2 with ⟨h1, h0⟩ | ⟨g, cap, cur, h1, _, _, hc, _⟩
  · omega
  · rw [h1] at e
    simp only [Value.slice.injEq] at e
    omega
def few40 (p : Pr) : Pr := (cut40 p.1, cut40 p.2)
end Go.Proofs.Ytchimfgbdfmegaa
