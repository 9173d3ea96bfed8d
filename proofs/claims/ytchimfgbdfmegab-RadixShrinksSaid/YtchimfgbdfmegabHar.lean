/- Bounds on trees of few short pairs. -/
import Derived.Test.YtchimfgbdfmegabHaq
import Derived.Shelf.Bytes.SlEqualAll
namespace Go.Proofs.Ytchimfgbdfmegab
open Go.RowKit Go.Lib
set_option linter.unusedVariables false
set_option maxRecDepth 100000
set_option linter.unnecessarySimpa false
set_option linter.unusedSimpArgs false
set_option linter.unnecessarySimpa false
set_option maxRecDepth 100000
theorem cnL_cons (k : RX) (ks : List RX) : cnL (k :: ks) = cn k + cnL ks := by simp [cnL]
theorem ndL_cn : ∀ ks : List RX, (∀ k ∈ ks, nd k + 1 ≤ 2 * cn k) → ndL ks + ks.length ≤ 2 * cnL ks
  | [], _ => by simp [ndL, cnL]
  | k :: ks, h => by
    have h1 := h k (by simp)
    have h2 := ndL_cn ks (fun x hx => h x (by simp [hx]))
    rw [ndL_cons, cnL_cons, List.length_cons]
    omega
theorem nd_kid : ∀ t : RX, Can t → Kd t → nd t + 1 ≤ 2 * cn t := by
  intro t
  induction t using RX.ind with
  | h t ih =>
    intro hc hd
    have h1 := ndL_cn t.kids (fun k hk => ih k hk (hc.kids k hk) (hc.kd k hk))
    rw [nd_eq, cn_eq]
    rcases hd.2 with h | h
    · obtain ⟨v, hv⟩ := Option.isSome_iff_exists.1 h
      rw [hv]
      simp [vals]
      omega
    · omega
theorem nd_can (t : RX) (hc : Can t) : nd t ≤ 1 + 2 * cn t := by
  have h1 := ndL_cn t.kids (fun k hk => nd_kid k (hc.kids k hk) (hc.kd k hk))
  rw [nd_eq, cn_eq]
  omega
theorem wtL_nd : ∀ ks : List RX, (∀ k ∈ ks, wt k = 2 * nd k) → wtL ks = 2 * ndL ks
  | [], _ => by simp [wtL, ndL]
  | k :: ks, h => by
    rw [wtL_cons, ndL_cons, h k (by simp), wtL_nd ks (fun x hx => h x (by simp [hx]))]
    omega
theorem wt_nd : ∀ t : RX, wt t = 2 * nd t := by
  intro t
  induction t using RX.ind with
  | h t ih => rw [wt_eq, nd_eq, wtL_nd t.kids ih]; omega
/-- short values -/
def VS (n : Nat) (t : RX) : Prop := ∀ x ∈ body t, x.2.size ≤ n
theorem VS.kid {n : Nat} {t k : RX} (h : VS n t) (hk : k ∈ t.kids) : VS n k := fun x hx => h (k.lab ++ x.1, x.2) (body_mem.2 (.inr ⟨k, hk, x.1, hx, rfl⟩))
theorem VS.val {n : Nat} {t : RX} (h : VS n t) {v : ByteArray} (hv : t.val = some v) : v.size ≤ n := h ([], v) (body_mem.2 (.inl ⟨rfl, hv⟩))
theorem shBL_nd (m : Nat) : ∀ ks : List RX, (∀ k ∈ ks, (shB k).length ≤ m * nd k) → (shBL ks).length ≤ m * ndL ks
  | [], _ => by simp [shBL]
  | k :: ks, h => by
    rw [shBL_cons, ndL_cons, List.length_append, Nat.mul_add]
    have h1 := h k (by simp)
    have h2 := shBL_nd m ks (fun x hx => h x (by simp [hx]))
    omega
theorem shB_nd : ∀ t : RX, Can t → Shrt 40 t → VS 40 t → t.lab.length ≤ 40 → (shB t).length ≤ 90 * nd t := by
  intro t
  induction t using RX.ind with
  | h t ih =>
    intro hc hs hv hl
    have h1 := shBL_nd 90 t.kids (fun k hk => ih k hk (hc.kids k hk) (hs.kid hk) (hv.kid hk) (hs.lab hc hk))
    rw [shB_eq, nd_eq, List.length_append]
    have h2 : (headB t).length ≤ 90 := by
      unfold headB
      rw [List.length_append, List.length_append, textB_len]
      have e1 : (labS t).size = t.lab.length := by simp [labS, ByteArray.size]
      have e2 : (twoB t.kids.length).length = 2 := rfl
      have e3 : (valB t.val).length ≤ 43 := by
        cases hvv : t.val with
        | none => simp [valB]
        | some v => have := hv.val hvv; simp [valB, textB_len]; omega
      omega
    omega
/-- few short pairs: the tree is within its bounds -/
theorem TreeW.bnd {w : World} {b : Nat} {t : RX} (h : TreeW w b t) (hv : VS 40 t) (hn : (prs t).length ≤ 1000) : TBnd t := by
  have h1 := nd_can t h.can
  have h2 := shB_nd t h.can h.shr hv (by rw [h.lab]; simp)
  have h3 := cn_prs t
  refine ⟨h.can, h.lab, h.shr.more (by omega), hn, fun p hp => ?_, by omega, by omega, by rw [wt_nd]; omega⟩
  have := h.shr _ (prs_mem.1 hp)
  have e : p.1.size = (key p).length := by show p.1.data.size = p.1.data.toList.length; exact Array.length_toList.symm
  simp only at this
  omega
/-- the law's tree, of few short pairs -/
theorem TreeW.tree_any {w : World} {b : Nat} {t : RX} (h : TreeW w b t) (hv : VS 40 t) (hn : (prs t).length ≤ 1000) (A : Option Addr) (c : Nat) (hR : Rd w A (prs t)) (hcap : (prs t).length ≤ c) :
    Calls Try.prog 14 #[at0 b, .slice A (prs t).length c] w fun e w' => e = .returned (.bool true) ∧ Below w.heap.size w w' :=
  Ytchimfgbdfmegab.tree_any b t A c w h.rad (h.bnd hv hn) hR hcap
end Go.Proofs.Ytchimfgbdfmegab
/- The law's few: a pair of short strings. -/
namespace Go.Proofs.Ytchimfgbdfmegab
open Go.RowKit Go.Lib
set_option linter.unusedVariables false
set_option maxRecDepth 100000
set_option linter.unnecessarySimpa false
set_option linter.unusedSimpArgs false
set_option linter.unnecessarySimpa false
set_option maxRecDepth 100000
def cut40 (s : ByteArray) : ByteArray := s.extract 0 40
theorem cut40_size (s : ByteArray) : (cut40 s).size ≤ 40 := by unfold cut40; rw [ByteArray.size_extract]; omega
theorem cut40_le {s : ByteArray} (h : s.size ≤ 40) : cut40 s = s := by
  unfold cut40
  apply bytes_ext
  simp
  exact List.take_of_length_le (by simpa using h)
theorem few_below (w : World) (a b : Value) : Below w.heap.size w ((w.alloc (.cells #[a, b] 24)).alloc (.cells #[a, b] 24)) := ((Below.refl _ w).alloc (Nat.le_refl _) _).alloc (by simp) _
theorem few_end (a b : Value) (tmps : Array Value) (ds : List Deferred) (w : World) (R : Ending → World → Prop) (ht : tmps[2]? = some (.pointer (some ⟨w.heap.size + 1, 0, none⟩))) (hds : ds = [])
    (h : R (.returned (.agg #[a, b])) ((w.alloc (.cells #[a, b] 24)).alloc (.cells #[a, b] 24))) : bodyPost Try.prog Try.f8 R .ret { tmps := tmps, defers := ds } ((w.alloc (.cells #[a, b] 24)).alloc (.cells #[a, b] 24)) := by
  subst hds
  refine bodyPost_ret (v := .agg #[a, b]) ?_ rfl h
  simp [results, Try.f8, go_sem, ht]
set_option maxHeartbeats 1000000 in
theorem few_any (k v : ByteArray) (w : World) : Calls Try.prog 8 #[.agg #[.string k, .string v]] w fun e w' => e = .returned (.agg #[.string (cut40 k), .string (cut40 v)]) ∧ Below w.heap.size w w' := by
  by_cases h1 : k.size ≤ 40
  · have e1 := Lib.hid (cut40_le h1)
    have l1 : ¬ ((k.size : Int) > 40) := by omega
    by_cases h2 : v.size ≤ 40
    · have e2 := Lib.hid (cut40_le h2)
      have l2 : ¬ ((v.size : Int) > 40) := by omega
      go_enter Try.func8, Try.ntmps8
      go_wp2_with fail
      refine few_end _ _ _ _ _ _ rfl rfl ⟨by rw [e1.out, e2.out], few_below _ _ _⟩
    · have e2 := Lib.hid (show cut40 v = v.extract 0 40 from rfl)
      have l2 : (v.size : Int) > 40 := by omega
      have l3 : 40 ≤ v.size := by omega
      go_enter Try.func8, Try.ntmps8
      go_wp2_with fail
      refine few_end _ _ _ _ _ _ rfl rfl ⟨by rw [e1.out, e2.out], few_below _ _ _⟩
  · have e1 := Lib.hid (show cut40 k = k.extract 0 40 from rfl)
    have l1 : (k.size : Int) > 40 := by omega
    have l3 : 40 ≤ k.size := by omega
    by_cases h2 : v.size ≤ 40
    · have e2 := Lib.hid (cut40_le h2)
      have l2 : ¬ ((v.size : Int) > 40) := by omega
      go_enter Try.func8, Try.ntmps8
      go_wp2_with fail
      refine few_end _ _ _ _ _ _ rfl rfl ⟨by rw [e1.out, e2.out], few_below _ _ _⟩
    · have e2 := Lib.hid (show cut40 v = v.extract 0 40 from rfl)
      have l2 : (v.size : Int) > 40 := by omega
      have l4 : 40 ≤ v.size := by omega
      go_enter Try.func8, Try.ntmps8
      go_wp2_with fail
      refine few_end _ _ _ _ _ _ rfl rfl ⟨by rw [e1.out, e2.out], few_below _ _ _⟩
end Go.Proofs.Ytchimfgbdfmegab
/- The law's awake: the document's example. -/
namespace Go.Proofs.Ytchimfgbdfmegab
open Go.RowKit Go.Lib
set_option linter.unusedVariables false
set_option maxRecDepth 100000
set_option linter.unnecessarySimpa false
set_option linter.unusedSimpArgs false
set_option linter.unnecessarySimpa false
set_option maxRecDepth 100000
theorem awake_shape {u : RX} {v1 v2 : ByteArray} (hc : Can u) (hb : ∀ x : Ent, x ∈ body u ↔ x = ([97, 99], v2) ∨ x = ([97, 98], v1)) : ∃ k, u.kids = [k] ∧ k.lab = [97] ∧ k.kids.length = 2 := by
  have hone : ∀ k ∈ u.kids, fst? k = 98 := fun k hk => by
    have hd := hc.kd k hk
    obtain ⟨x, hx⟩ := body_some k (hc.kids k hk) (by rcases hd.2 with h | h; exact .inl h; exact .inr (by omega))
    have hm := (hb (k.lab ++ x.1, x.2)).1 (body_mem.2 (.inr ⟨k, hk, x.1, hx, rfl⟩))
    cases hl : k.lab with
    | nil => exact absurd hl hd.1
    | cons b s =>
      rw [fst_cons hl]
      rw [hl] at hm
      simp only [List.cons_append, Prod.mk.injEq, List.cons.injEq] at hm
      rcases hm with ⟨⟨e, _⟩, _⟩ | ⟨⟨e, _⟩, _⟩ <;> rw [e] <;> rfl
  have hab := (hb ([97, 98], v1)).2 (.inr rfl)
  have hac := (hb ([97, 99], v2)).2 (.inl rfl)
  have hr := hc.rises
  have hks : ∃ k, u.kids = [k] := by
    match hk : u.kids with
    | [] =>
      rcases body_mem.1 hab with ⟨h, _⟩ | ⟨k, h, _⟩
      · cases h
      · rw [hk] at h; simp at h
    | [k] => exact ⟨k, rfl⟩
    | k :: k' :: r =>
      rw [hk] at hr hone
      have h1 := hone k (by simp)
      have h2 := hone k' (by simp)
      have h3 := (List.pairwise_cons.1 hr).1 k' (by simp)
      omega
  obtain ⟨k, hk⟩ := hks
  have hkm : k ∈ u.kids := by rw [hk]; simp
  have hd := hc.kd k hkm
  have hck := hc.kids k hkm
  have h1 : ∃ y, (y, v1) ∈ body k ∧ [97, 98] = k.lab ++ y := by
    rcases body_mem.1 hab with ⟨h, _⟩ | ⟨k', h, y, h1, h2⟩
    · cases h
    · rw [hk, List.mem_singleton] at h; rw [h] at h1 h2; exact ⟨y, h1, h2⟩
  have h2 : ∃ y, (y, v2) ∈ body k ∧ [97, 99] = k.lab ++ y := by
    rcases body_mem.1 hac with ⟨h, _⟩ | ⟨k', h, y, h1, h2⟩
    · cases h
    · rw [hk, List.mem_singleton] at h; rw [h] at h1 h2; exact ⟨y, h1, h2⟩
  have hlab : k.lab = [97] := by
    obtain ⟨y1, _, e1⟩ := h1
    obtain ⟨y2, _, e2⟩ := h2
    match hl : k.lab with
    | [] => exact absurd hl hd.1
    | [a] =>
      rw [hl] at e1
      simp only [List.cons_append, List.nil_append, List.cons.injEq] at e1
      rw [← e1.1]
    | a :: b :: s =>
      rw [hl] at e1 e2
      simp only [List.cons_append, List.cons.injEq] at e1 e2
      have := e1.2.1.trans e2.2.1.symm
      exact absurd this (by decide)
  refine ⟨k, hk, hlab, ?_⟩
  have hkey : ∀ y : Ent, y ∈ body k → y.1 = [98] ∨ y.1 = [99] := fun y hy => by
    have hm := (hb (k.lab ++ y.1, y.2)).1 (body_mem.2 (.inr ⟨k, hkm, y.1, hy, rfl⟩))
    rw [hlab] at hm
    simp only [List.cons_append, List.nil_append, Prod.mk.injEq, List.cons.injEq, true_and] at hm
    rcases hm with ⟨e, _⟩ | ⟨e, _⟩
    · exact .inr e
    · exact .inl e
  have hge : 2 ≤ k.kids.length := by
    rcases hd.2 with h | h
    · obtain ⟨v, hv⟩ := Option.isSome_iff_exists.1 h
      rcases hkey ([], v) (body_mem.2 (.inl ⟨rfl, hv⟩)) with e | e <;> cases e
    · exact h
  have htwo : ∀ c ∈ k.kids, fst? c = 99 ∨ fst? c = 100 := fun c hcm => by
    have hdc := hck.kd c hcm
    obtain ⟨x, hx⟩ := body_some c (hck.kids c hcm) (by rcases hdc.2 with h | h; exact .inl h; exact .inr (by omega))
    have hm := hkey (c.lab ++ x.1, x.2) (body_mem.2 (.inr ⟨c, hcm, x.1, hx, rfl⟩))
    cases hl : c.lab with
    | nil => exact absurd hl hdc.1
    | cons b s =>
      rw [fst_cons hl]
      rw [hl] at hm
      simp only [List.cons_append, List.cons.injEq] at hm
      rcases hm with ⟨e, _⟩ | ⟨e, _⟩
      · left; rw [e]; rfl
      · right; rw [e]; rfl
  have hrk := hck.rises
  match hkk : k.kids, hge with
  | [_, _], _ => rfl
  | a :: b :: c :: r, _ =>
    rw [hkk] at hrk htwo
    have ha := htwo a (by simp)
    have hb' := htwo b (by simp)
    have hc' := htwo c (by simp)
    have p1 := List.pairwise_cons.1 hrk
    have p2 := List.pairwise_cons.1 p1.2
    have q1 := p1.1 b (by simp)
    have q2 := p2.1 c (by simp)
    omega
theorem one_body {u : RX} {k : List UInt8} {v : ByteArray} (hc : Can u) (h : InsX k v nilR u) : ∀ x : Ent, x ∈ body u ↔ x = (k, v) := fun x => by
  rw [h x]
  constructor
  · rintro (h | ⟨h, _⟩)
    · exact h
    · exact absurd h (nil_body x)
  · exact .inl
theorem cmp_self (k : List UInt8) : ¬ compareBytes k k < 0 := by
  induction k with
  | nil => simp [compareBytes]
  | cons a r ih => simpa [compareBytes] using ih
theorem one_cn {u : RX} {k : List UInt8} {v : ByteArray} (hc : Can u) (h : InsX k v nilR u) : cn u = 1 := by
  have h1 := one_body hc h
  have hr := body_rises u hc
  unfold cn
  match hb : body u with
  | [] => have := (h1 (k, v)).2 rfl; rw [hb] at this; simp at this
  | [_] => rfl
  | a :: b :: r =>
    rw [hb] at hr h1
    have e1 := (h1 a).1 (by simp)
    have e2 := (h1 b).1 (by simp)
    have := (List.pairwise_cons.1 hr).1 b (by simp)
    rw [e1, e2] at this
    exact absurd this (by rw [show (k, v).1 = k from rfl]; exact cmp_self k)
set_option maxHeartbeats 2000000 in
theorem awakeR_any (w : World) : Calls Try.prog 5 #[] w fun e w' => e = .returned (.bool true) ∧ Below w.heap.size w w' := by
  have k1 := put_nil (.pointer none) ⟨#[97, 98]⟩ ⟨#[49]⟩ w (.inl rfl) (by decide)
  go_enter Try.func5, Try.ntmps5
  go_wp2_with fail
  refine k1.mono ?_
  rintro e w1 ⟨b1, u1, rfl, ht1, hi1, hB1⟩
  have k2 := put_tree b1 u1 (.pointer none) ⟨#[97, 99]⟩ ⟨#[50]⟩ w1 (.inl rfl) ht1 (by decide)
  clear k1
  unfold at0 at k2 ⊢
  go_wp2_with fail
  refine k2.mono ?_
  rintro e w2 ⟨b2, u2, new, rfl, hn2, -, ht2, hi2, hB2⟩
  have hb1 := one_body ht1.can hi1
  have hnew : new = true := by
    cases new with
    | true => rfl
    | false =>
      obtain ⟨v, hv⟩ := hn2.1 rfl
      have := (hb1 _).1 hv
      simp at this
  subst hnew
  obtain ⟨k, hk1, hk2, hk3⟩ := awake_shape (v1 := ⟨#[49]⟩) (v2 := ⟨#[50]⟩) ht2.can (fun x => by
    rw [hi2 x, hb1 x]
    constructor
    · rintro (h | ⟨h, _⟩)
      · exact .inl h
      · exact .inr h
    · rintro (h | h)
      · exact .inl h
      · exact .inr ⟨h, by rw [h]; decide⟩)
  obtain ⟨kv, bs, hN, hKd⟩ : ∃ kv bs, Nod 0 w2 b2 u2 kv bs ∧ ∀ (i c : Nat) (k : RX), bs[i]? = some c → u2.kids[i]? = some k → RadW (fun _ => True) w2 c k := by
    cases ht2.rad with | mk a1 a2 a3 a4 => exact ⟨_, _, a1, a4⟩
  have hl := hN.len
  rw [hk1] at hl
  obtain ⟨c, rfl⟩ : ∃ c, bs = [c] := List.length_eq_one_iff.1 hl
  have hkid := hKd 0 c k rfl (by rw [hk1]; rfl)
  have k3 := kids_any 0 b2 u2 kv [c] w2 hN (by simp)
  have hB12 := hB1.trans (hB2.mono hB1.size)
  have hcn1 := one_cn ht1.can hi1
  have HT1 := Lib.hid (show TreeW w2 b1 u1 from ht1.below hB2)
  have HC := Lib.hid hcn1
  have HF := Lib.hid ht1.can.few
  have HW := Lib.hid (wt_nd u1)
  have HW2 := Lib.hid (nd_can u1 ht1.can)
  clear k2 hn2 hi2 hb1 ht1 hi1 hcn1 ht2 hl hN hKd hk1
  unfold at0 at k3 ⊢
  go_wp2_with fail
  refine k3.mono ?_
  rintro e w3 ⟨v3, rfl, ho3, hB3⟩
  obtain ⟨g, cap, e3, -, hcap, hc3⟩ := ho3.atK 0 c rfl
  subst e3
  have hB13 := hB12.trans (hB3.mono hB12.size)
  obtain ⟨lab, hlab, klab⟩ := label_any _ c k w2 hkid
  rw [hk2] at hlab
  obtain rfl : lab = ⟨#[97]⟩ := bytes_ext (by rw [hlab])
  have k4 := klab w3 hB3
  have hkid3 := hkid.stay hB3
  obtain ⟨kv', bs', hN'⟩ : ∃ kv bs, Nod 0 w3 c k kv bs := by
    cases hkid3 with | mk a1 a2 a3 a4 => exact ⟨_, _, a1⟩
  have hl' := hN'.len
  rw [hk3] at hl'
  have k5 := kids_any 0 c k kv' bs' w3 hN' (by omega)
  have HL := Lib.hid hl'
  unfold at0 at k4 k5 hc3
  simp only [List.length_singleton] at hcap ⊢
  clear k3 klab hkid hkid3 hN' hl' hlab hk2 hk3 ho3
  go_wp2_with fail
  refine k4.mono ?_
  rintro e w4 ⟨rfl, rfl⟩
  clear k4
  go_wp2_with fail
  refine k5.mono ?_
  rintro e w5 ⟨v5, rfl, ho5, hB5⟩
  obtain ⟨A5, c5, h5⟩ := own_formN ho5
  rw [HL.out] at h5
  subst h5
  have hB15 := hB13.trans (hB5.mono hB13.size)
  have k6 := len_any b1 u1 w5 (HT1.out.rad.stay (hB3.trans (hB5.mono hB3.size))) HF.out (by rw [HC.out]; omega) (by have := HW.out; have := HW2.out; have := HC.out; omega)
  rw [HC.out] at k6
  unfold at0 at k6
  clear k5 ho5
  go_wp2_with fail
  refine k6.mono ?_
  rintro e w6 ⟨rfl, hB6⟩
  have hB16 := hB15.trans (hB6.mono hB15.size)
  clear k6
  go_wp2_with fail
  go_ret
  exact ⟨rfl, hB16⟩
end Go.Proofs.Ytchimfgbdfmegab
/- Calls at nil; bytes.Equal of rows of bytes. -/
namespace Go.Proofs.Ytchimfgbdfmegab
open Go.RowKit Go.Lib
set_option linter.unusedVariables false
set_option maxRecDepth 100000
set_option linter.unnecessarySimpa false
set_option linter.unusedSimpArgs false
set_option linter.unnecessarySimpa false
set_option maxRecDepth 100000
theorem len_nil (w : World) : Calls Try.prog 17 #[.pointer none] w fun e w' => e = .returned (.int .i64 0) ∧ w = w' := by
  go_enter Try.func17, Try.ntmps17
  go_wp2_with fail
  go_ret
  exact ⟨rfl, rfl⟩
theorem label_nil (w : World) : Calls Try.prog 16 #[.pointer none] w fun e w' => e = .returned (.string ⟨#[]⟩) ∧ w = w' := by
  go_enter Try.func16, Try.ntmps16
  go_wp2_with fail
  go_ret
  exact ⟨rfl, rfl⟩
theorem kids_nil (w : World) : Calls Try.prog 15 #[.pointer none] w fun e w' => e = .returned (.slice none 0 0) ∧ w = w' := by
  go_enter Try.func15, Try.ntmps15
  go_wp2_with fail
  go_ret
  exact ⟨rfl, rfl⟩
theorem owned_nil (a : Option Addr) (w : World) : Calls Try.prog 21 #[.pointer none, .pointer a] w fun e w' => e = .returned (.bool false) ∧ w = w' := by
  go_enter Try.func21, Try.ntmps21
  go_wp2_with fail
  go_ret
  exact ⟨rfl, rfl⟩
theorem shape_nil (w : World) : Calls Try.prog 29 #[.pointer none] w fun e w' => e = .returned (.slice none 0 0) ∧ w = w' := by
  go_enter Try.func29, Try.ntmps29
  go_wp2_with fail
  go_ret
  exact ⟨rfl, rfl⟩
theorem canonR_nil (w : World) : Calls Try.prog 31 #[.pointer none] w fun e w' => e = .returned (.bool false) ∧ w = w' := by
  go_enter Try.func31, Try.ntmps31
  go_wp2_with fail
  go_ret
  exact ⟨rfl, rfl⟩
def bytS (L : List Nat) : ByteArray := strOfNums (L.map fun n : Nat => (n : Int))
theorem bytS_size (L : List Nat) : (bytS L).size = L.length := by unfold bytS; rw [strOfNums_size, List.length_map]
theorem conv_own {base : Nat} {w : World} {v : Value} {L : List Nat} (h : OwnB base w v L) : (convert 41 9 v).run Try.prog w = .ok (.string (bytS L)) w := by
  rcases h.2 with ⟨rfl, h0⟩ | ⟨g, cap, cur, rfl, _⟩
  · obtain rfl := List.length_eq_zero_iff.1 h0
    exact run_convert_bytes_nil w 41 5 Try.underlying41 Try.underlying5 0 0 9 Try.underlying9
  · refine run_convert_bytes_arg w 41 5 Try.underlying41 Try.underlying5 g 0 L.length cap _ (by simp) (fun i hi => ?_) 9 Try.underlying9
    rw [Nat.zero_add, World.ownsRow.cellAt h i (by omega)]
    simp [ubs, List.getD_eq_getElem?_getD, hi]
end Go.Proofs.Ytchimfgbdfmegab
