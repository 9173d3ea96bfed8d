/- drop. -/
import Derived.Test.YtimhdegdmdilaaaHaj
import Derived.BigQuiet
import Derived.Deep.QuietTactic
import Derived.Test.YtimhdegdmdilaaaHad
namespace Go.Proofs.Ytimhdegdmdilaaa
open Go.RowKit Go.Lib
set_option linter.unusedVariables false
set_option maxRecDepth 100000
set_option linter.unnecessarySimpa false
set_option linter.unusedSimpArgs false
set_option linter.unnecessarySimpa false
set_option maxRecDepth 100000
theorem join_any (P : Nat → Prop) (base b : Nat) (u : RX) (tv : Value) (w : World) (hd : DeadT base w tv) (hb : base ≤ w.heap.size) (h : MineW P base w b u) (hc : Can u) (hs : Shrt 1000 u) (hl : u.lab.length ≤ 1000) : Calls Try.prog 106 #[.agg #[tv], at0 b] w (JoinPost P base b u w) := by
  rcases joinR_or (u := u) with h1 | ⟨h1, c, h2, -⟩
  · by_cases hj : u.val.isSome = true ∨ u.kids.length ≠ 1
    · exact join_stays P base b u tv w hd hb h hj (by have := kids_few hc; omega)
    · simp only [not_or, Bool.not_eq_true, Option.isSome_eq_false_iff, Option.isNone_iff_eq_none, ne_eq] at hj
      obtain ⟨c, hcs⟩ := list_one (Classical.not_not.1 hj.2)
      have hcm : c ∈ u.kids := by rw [hcs]; simp
      exact join_kid P base b u c tv w hd hb h hj.1 hcs (by have := kids_few (hc.kids c hcm); omega) (by omega) (by have := hs.lab hc hcm; omega)
  · have hcm : c ∈ u.kids := by rw [h2]; simp
    exact join_kid P base b u c tv w hd hb h h1 h2 (by have := kids_few (hc.kids c hcm); omega) (by omega) (by have := hs.lab hc hcm; omega)
/-- what drop leaves -/
def DropPost (P : Nat → Prop) (base : Nat) (t : RX) (rest : List UInt8) (w : World) (e : Ending) (w' : World) : Prop :=
  ∃ b u, e = .returned (at0 b) ∧ MineW P base w' b u ∧ Can u ∧ u.lab = t.lab ∧ DelX rest t u ∧ Below base w w'
set_option maxHeartbeats 2000000 in
theorem drop_here (P : Nat → Prop) (base b : Nat) (ours : Bool) (t : RX) (tv : Value) (w : World) (hd : DeadT base w tv) (hb : base ≤ w.heap.size) (h : Src P base w ours b t) (hc : Can t) :
    Calls Try.prog 86 #[.agg #[tv], at0 b, .bool ours, .string ⟨#[]⟩] w (DropPost P base t [] w) := by
  have hB1 := (Below.refl _ w).alloc (Nat.le_refl _) (.cells #[tv] 126)
  have hs1 : Src P base (w.alloc (.cells #[tv] 126)) ours b t := by
    rcases h with ⟨e, h⟩ | ⟨e, h⟩
    · exact .inl ⟨e, h.below hB1⟩
    · exact .inr ⟨e, h.stay hB1⟩
  have ko := own_any P base b ours t tv _ (hd.stay hB1) (Nat.le_trans hb hB1.size) hs1 (by have := kids_few hc; omega)
  obtain ⟨a, rfl⟩ := hd.form
  clear h hs1 hd
  unfold at0 at ko ⊢
  go_enter Try.func86, Try.ntmps86
  go_wp2_with fail
  refine ko.mono ?_
  rintro e w1 ⟨m, rfl, hmb, hm, hB2⟩
  obtain ⟨kv, bs, hN, hmg, hk⟩ := hm.ex
  cases t with
  | node l v ks =>
  obtain ⟨o, lab, val, sh, e1, e2, hBm, c0, c1, c2, c3, c4, c5⟩ := hN.cells
  have f2 := hBm.frozen 2
  have hb2 := hBm.set_ 2 (.string ⟨#[]⟩)
  have f3' := hb2.frozen 3
  have c3' : (w1.setCell ⟨m, 2, none⟩ (.string ⟨#[]⟩)).cell? ⟨m, 3, none⟩ = some (.bool v.isSome) := hb2.cell 3
  have hb3 := hb2.set_ 3 (.bool false)
  have hK : Keep [m] w1 ((w1.setCell ⟨m, 2, none⟩ (.string ⟨#[]⟩)).setCell ⟨m, 3, none⟩ (.bool false)) := ((Keep.refl [m] w1).setCell (p := ⟨m, 2, none⟩) (by simp) _).setCell (p := ⟨m, 3, none⟩) (by simp) _
  have HH := Lib.hid hk
  have HN := Lib.hid hN
  have HE := Lib.hid e1
  clear ko hm hk hN hBm hb2 e1 c0 c1 c4 c5 hmb
  unfold at0
  go_wp2_with fail
  go_ret
  refine ⟨m, .node l none ks, rfl, mine_val HN.out hmg HH.out (u := none) hb3 HE.out hK, hc.val_ _, rfl, del_here hc, ?_⟩
  exact (hB1.mono hb).trans ((hB2.mono (Nat.le_trans hb hB1.size)).trans (keep_below hK hmg (Nat.le_trans (Nat.le_trans hb hB1.size) hB2.size)))
/-- rows lose an element -/
theorem erase_get {α : Type} {xs : List α} {i Q : Nat} {c : α} (h : (xs.eraseIdx Q)[i]? = some c) : ∃ j, xs[j]? = some c ∧ j = (if i < Q then i else i + 1) := by
  rw [List.getElem?_eraseIdx] at h
  by_cases hi : i < Q
  · rw [if_pos hi] at h; exact ⟨i, h, by rw [if_pos hi]⟩
  · rw [if_neg hi] at h; exact ⟨i + 1, h, by rw [if_neg hi]⟩
theorem del_one (base Q : Nat) (kv : Value) (bs : List Nat) (w : World) (h : OwnK base w kv bs) (hQ : Q < bs.length) (hn : bs.length ≤ 900) :
    Calls Try.prog 105 #[kv, .int .i64 Q, .int .i64 ((Q : Int) + 1)] w fun e w' => ∃ v', e = .returned v' ∧ OwnK base w' v' (bs.eraseIdx Q) ∧ v'.ownBlock = kv.ownBlock ∧ Keep kv.ownBlock.toList w w' := by
  have k := del_kids base Q (Q + 1) bs.length kv (kcs bs) w h hQ (Lib.hid rfl) (by omega) (kcs_one bs)
  rw [show (((Q + 1 : Nat)) : Int) = (Q : Int) + 1 by omega] at k
  refine k.mono ?_
  rintro e w' ⟨g, cap, rfl, rfl, ho, hK⟩
  refine ⟨_, rfl, ?_, rfl, hK⟩
  rw [kcs_del] at ho
  unfold OwnK
  rw [List.length_eraseIdx_of_lt hQ]
  exact ho
set_option maxHeartbeats 2000000 in
theorem drop_down (P : Nat → Prop) (base b : Nat) (ours : Bool) (l : List UInt8) (v : Option ByteArray) (ks : List RX) (tv : Value) (rest : ByteArray) (x : UInt8) (s : List UInt8) (w : World) (hd : DeadT base w tv) (hb : base ≤ w.heap.size) (h : Src P base w ours b (.node l v ks)) (hc : Can (.node l v ks)) (hP : ∀ x, base ≤ x → P x)
    (hr : rest.data.toList = x :: s) (hsh : Shrt 1000 (.node l v ks)) (hrs : rest.size ≤ 1000) (k : RX) (Q : Nat) (hQe : Q = posR ks (x.toNat + 1)) (hi : isR ks (x.toNat + 1) = true) (hke : rat ks Q = k) (r : List UInt8) (hrk : rest.data.toList = k.lab ++ r) (wv : ByteArray) (hmem : (r, wv) ∈ body k)
    (hIH : ∀ (P' : Nat → Prop) (B b' : Nat) (t' : RX) (rest' : ByteArray) (w' : World), rest'.size < rest.size → DeadT B w' tv → B ≤ w'.heap.size → Src P' B w' false b' t' → Can t' → (∀ y, B ≤ y → P' y) → Shrt 1000 t' → (∃ v, (rest'.data.toList, v) ∈ body t') → Calls Try.prog 86 #[.agg #[tv], at0 b', .bool false, .string rest'] w' (DropPost P' B t' rest'.data.toList w')) :
    Calls Try.prog 86 #[.agg #[tv], at0 b, .bool ours, .string rest] w (DropPost P base (.node l v ks) rest.data.toList w) := by
  have hB1 := (Below.refl _ w).alloc (Nat.le_refl _) (.cells #[tv] 126)
  have hX1 := Blk.new w 126 #[tv]
  have hs1 : Src P base (w.alloc (.cells #[tv] 126)) ours b (.node l v ks) := by
    rcases h with ⟨e, h⟩ | ⟨e, h⟩
    · exact .inl ⟨e, h.below hB1⟩
    · exact .inr ⟨e, h.stay hB1⟩
  have hd1 := hd.stay hB1
  have ko := own_any P base b ours _ tv _ hd1 (Nat.le_trans hb hB1.size) hs1 (by have := kids_few hc; omega)
  have hkf : ks.length ≤ 257 := kids_few hc
  have hz := lab_ne hr
  obtain ⟨hp0, hget⟩ := byte0 hr
  have hpos : (0 : Int) < (rest.size : Int) := by omega
  obtain ⟨X, hXe⟩ : ∃ X, X = w.heap.size := ⟨_, rfl⟩
  obtain ⟨a, rfl⟩ := hd.form
  rw [← hXe] at hX1
  obtain ⟨hQk, hQf⟩ := pos_old hi
  rw [← hQe] at hQk hQf
  rw [hke] at hQf
  have HX := Lib.hid hXe
  have HI := Lib.hid hi
  have HR := Lib.hid hr
  have HS := Lib.hid hsh
  have HC := Lib.hid hc
  have HIH := Lib.hid hIH
  have HQE := Lib.hid hQe
  have HKE := Lib.hid hke
  have HRK := Lib.hid hrk
  have HMEM := Lib.hid hmem
  have HQF := Lib.hid hQf
  clear h hs1 hd hi hsh hc hr hXe hIH hQe hke hrk hmem hQf
  unfold at0 at ko ⊢
  go_enter Try.func86, Try.ntmps86
  go_wp2_with fail
  refine ko.mono ?_
  rintro e w1 ⟨m, rfl, -, hm, hB2⟩
  obtain ⟨kv, bs, hN, hmg, hk⟩ := hm.ex
  have kp := place_any (fun x => P x ∧ x ≠ m ∧ kv.ownBlock ≠ some x) base m _ kv bs x w1 hN hk HC.out (fun k hk => HS.out.lab HC.out hk)
  rw [show (RX.node l v ks).kids = ks from rfl, HI.out, ← HQE.out] at kp
  clear ko
  unfold at0 at kp ⊢
  go_wp2_with fail
  refine kp.mono ?_
  rintro e w2 ⟨rfl, hB3⟩
  rw [← HX.out]
  have hQ : Q < bs.length := by rw [hN.len]; exact hQk
  have hX2 := (hX1.stay hB2).stay hB3
  have hB13 := (hB1.trans (hB2.mono hB1.size)).trans (hB3.mono (Nat.le_trans hB1.size hB2.size))
  have hmr : kv.ownBlock ≠ some m := own_ne hN.row (fun cur e => by
    obtain ⟨o, lab, val, sh, hb', -⟩ := hN.blk
    unfold Blk at hb'; rw [hb'] at e; cases e)
  have hd2 := (hd1.stay hB2).stay hB3
  have hN2 := hN.stay hB3
  have hK2 : ∀ (i c : Nat) (k : RX), bs[i]? = some c → ks[i]? = some k → RadW (fun y => (P y ∧ y ≠ m ∧ kv.ownBlock ≠ some y) ∧ y < w2.heap.size) w2 c k := fun i c k hc hk' => ((hk i c k hc hk').stay hB3).old
  have hlb : bs.length ≤ 257 := by rw [hN.len]; exact hkf
  have hb2 : base ≤ w2.heap.size := Nat.le_trans hb hB13.size
  clear kp hm hk hN hd1 hX1 hB1 hB2 hB3
  obtain ⟨g, cap, hkv, hcq⟩ := hN2.row.at_ Q hQ
  subst hkv
  have hkb : bs[Q]? = some (bs.getD Q 0) := by rw [List.getD_eq_getElem?_getD, List.getElem?_eq_getElem hQ]; rfl
  have hkid : RadW (fun y => (P y ∧ y ≠ m ∧ (Value.slice (some ⟨g, 0, none⟩) bs.length cap).ownBlock ≠ some y) ∧ y < w2.heap.size) w2 (bs.getD Q 0) k := hK2 Q _ _ hkb (by rw [rat_get hQk, HKE.out])
  have hkm : k ∈ ks := by rw [← HKE.out]; exact rat_mem hQk
  have hkc : Can k := HC.out.kids _ hkm
  have hks : Shrt 1000 k := HS.out.kid hkm
  have hkl : k.lab.length ≤ 1000 := HS.out.lab HC.out hkm
  have hknd : Kd k := HC.out.kd _ hkm
  obtain ⟨kb, hkbe⟩ : ∃ kb, kb = bs.getD Q 0 := ⟨_, rfl⟩
  rw [← hkbe] at hkid hcq
  have HK := Lib.hid hK2
  have hQi : (Q : Int) < (bs.length : Int) := by omega
  have hQ1 : IntKind.i64.wrap ((Q : Int) + 1) = (Q : Int) + 1 := IntWalk.i64_in _ (by omega)
  obtain ⟨o, lab, val, sh, e1, e2, hBm, m0, m1, m2, m3, m4, m5⟩ := hN2.cells
  obtain ⟨kv', bs', hkNod⟩ : ∃ kv' bs', Nod 0 w2 kb k kv' bs' := by
    cases hkid with | mk h1 => exact ⟨_, _, h1⟩
  obtain ⟨ko, kl, kval, ksh, f1, f2, hBk, k0, k1, k2, k3, k4, k5⟩ := hkNod.cells
  obtain ⟨A', c', hkv'⟩ : ∃ A' c', kv' = .slice A' bs'.length c' := by
    rcases hkNod.row.2 with ⟨e, h0⟩ | ⟨g', cap', cur', e, _⟩
    · exact ⟨none, 0, by rw [e, h0]⟩
    · exact ⟨_, _, e⟩
  subst hkv'
  have hkln := hkNod.len
  have hkls : kl.size = k.lab.length := by rw [← f1, Array.length_toList]; rfl
  have hml : m < w2.heap.size := hBm.lt
  have hXl : X < w2.heap.size := hX2.lt
  have hrl : ∀ y, (Value.slice (some ⟨g, 0, none⟩) bs.length cap).ownBlock = some y → y < w2.heap.size := fun y hy => hN2.row.lt hy
  have x0 : w2.cell? ⟨X, 0, none⟩ = some (.pointer a) := hX2.cell 0
  have HN := Lib.hid hN2
  have HBm := Lib.hid hBm
  have HD := Lib.hid hd2
  have HXb := Lib.hid hX2
  have HE1 := Lib.hid e1
  have HE2 := Lib.hid e2
  have H13 := Lib.hid hB13
  have HKID := Lib.hid hkid
  have HKB := Lib.hid hkb
  have HKLS := Lib.hid hkls
  have HKLN := Lib.hid hkln
  have F1 := Lib.hid f1
  have hklz : kl.size ≤ 1000 := by omega
  have hgm : g ≠ m := fun e => hmr (by rw [e]; rfl)
  clear hK2 hkbe hkb hkNod hBk hBm hN2 hd2 hX2 m0 m1 m2 m3 m5 k0 k2 k3 k5 e1 e2 f2 hB13 hkid hkls f1 hkln
  unfold at0 at hcq
  obtain ⟨k', s', hlk⟩ : ∃ (k' : UInt8) (s' : List UInt8), k.lab = k' :: s' := by
    cases hl2 : k.lab with
    | nil => exact absurd hl2 hknd.1
    | cons c t => exact ⟨c, t, rfl⟩
  have HLK := Lib.hid hlk
  clear hlk
  by_cases h0 : bs'.length = 0
  · have hk0 : k.kids = [] := List.length_eq_zero_iff.1 (by rw [← HKLN.out]; exact h0)
    have hr0 : r = [] := by
      rcases body_mem.1 HMEM.out with ⟨h, _⟩ | ⟨u, hu, _⟩
      · exact h
      · rw [hk0] at hu; simp at hu
    have hrest : rest.data.toList = k.lab := by rw [HRK.out, hr0, List.append_nil]
    have HREST := Lib.hid hrest
    have HR0 := Lib.hid hr0
    have HK0 := Lib.hid hk0
    rw [h0] at k4
    have kd := del_one base Q (.slice (some ⟨g, 0, none⟩) bs.length cap) bs w2 HN.out.row hQ (by omega)
    clear hrest hr0 hk0
    go_wp2_with fail
    refine kd.mono ?_
    rintro e w3 ⟨v', rfl, hO3, hob, hK3⟩
    have hBm3 := HBm.out.keep hK3 (by simp; exact hmr)
    obtain ⟨A3, n3, c3, rfl⟩ := hO3.form
    obtain ⟨⟨z0, z1, z2, z3, z4, z5⟩, y0, y1, y2, y3, y4, y5⟩ := six hBm3
    have hb4 := hBm3.set_ 4 (.slice A3 n3 c3)
    have hO4 := ownsRow_setCell_other (a := ⟨m, 4, none⟩) hO3 (by rw [hob]; exact hmr) (.slice A3 n3 c3)
    have hk4' : Keep [m] w3 (w3.setCell ⟨m, 4, none⟩ (.slice A3 n3 c3)) := (Keep.refl [m] w3).setCell (p := ⟨m, 4, none⟩) (by simp) _
    obtain ⟨hcan, hdel⟩ := step_gone (l := l) (v := v) HC.out hQk HKE.out HLK.out HK0.out
    rw [← HREST.out] at hdel
    have hBl : Below base w (w3.setCell ⟨m, 4, none⟩ (.slice A3 n3 c3)) := ((H13.out.mono hb).trans (hK3.below hb2 (fun y hy => own_ge HN.out.row y (by simpa using hy)))).setCell (p := ⟨m, 4, none⟩) hmg _
    clear z0 z1 z2 z3 z5 hO3 hBm3 kd
    go_wp2_with fail
    go_ret
    refine ⟨m, .node l v (ks.eraseIdx Q), rfl, ⟨.slice A3 n3 c3, bs.eraseIdx Q, ⟨⟨o, lab, val, sh, hb4, HE1.out, HE2.out⟩, hO4, ?_⟩, hmg, fun i c k' hc' hk' => ?_⟩, hcan, rfl, hdel, hBl⟩
    · show _ = (ks.eraseIdx Q).length
      rw [List.length_eraseIdx_of_lt hQ, List.length_eraseIdx_of_lt hQk, show bs.length = ks.length from HN.out.len]
    · obtain ⟨j, h1, e1⟩ := erase_get hc'
      obtain ⟨j', h2, e2⟩ := erase_get (show (ks.eraseIdx Q)[i]? = some k' from hk')
      have : j = j' := by rw [e1, e2]
      subst this
      have hr := ((HK.out j c k' h1 h2).keep hK3 (fun y hy hm => hy.1.2.2 (by simpa using hm))).keep hk4' (fun y hy hm => by simp at hm; exact hy.1.2.1 hm)
      exact hr.mono fun y hy _ => ⟨hy.1.1, hy.1.2.1, by rw [hob]; exact hy.1.2.2⟩
  · have h0i : ¬ ((bs'.length : Int) = 0) := by omega
    have hk1' : 1 ≤ k.kids.length := by rw [← HKLN.out]; omega
    obtain ⟨B, hBe⟩ : ∃ B, B = w2.heap.size := ⟨_, rfl⟩
    have hbB : base ≤ B := by rw [hBe]; exact hb2
    obtain ⟨P2, hP2⟩ : ∃ P2 : Nat → Prop, P2 = fun y => P y ∧ y ≠ m ∧ y ≠ g := ⟨_, rfl⟩
    have hgl : g < w2.heap.size := hrl g rfl
    have hkbl : kb < w2.heap.size := World.block_lt_of_cell? w2 _ k1
    have hPP : ∀ y, B ≤ y → P2 y := fun y hy => by rw [hP2]; exact ⟨hP y (Nat.le_trans hbB hy), by omega, by omega⟩
    have hkR : RadW P2 w2 kb k := HKID.out.mono fun y hy _ => by rw [hP2]; exact ⟨hy.1.1, hy.1.2.1, fun e => hy.1.2.2 (by rw [e]; rfl)⟩
    have hle : (kl.size : Int) ≤ (rest.size : Int) := by
      have h := congrArg List.length HRK.out
      rw [size_list, List.length_append, ← HKLS.out] at h
      omega
    have hl0 : 0 < kl.size := by rw [HKLS.out, HLK.out]; simp
    have hless : (rest.extract kl.size rest.size).size < rest.size := by rw [ByteArray.size_extract]; omega
    have hrx : (rest.extract kl.size rest.size).data.toList = r := by
      rw [ext_from, HKLS.out, HRK.out]; simp
    have HRX := Lib.hid hrx
    have HPP := Lib.hid hPP
    have HP2 := Lib.hid hP2
    have HBE := Lib.hid hBe
    have hmB : m < B := by rw [hBe]; exact hml
    have hXB : X < B := by rw [hBe]; exact hXl
    have hkB : kb < B := by rw [hBe]; exact hkbl
    have hgB : g < B := by rw [hBe]; exact hgl
    have hIHc := fun (W : World) (hW : Below w2.heap.size w2 W) => HIH.out P2 B kb k (rest.extract kl.size rest.size) W hless ((HD.out.stay hW).up hbB) (by rw [HBE.out]; exact hW.size) (.inr ⟨rfl, hkR.stay hW⟩) hkc HPP.out hks ⟨wv, by rw [HRX.out]; exact HMEM.out⟩
    have hnc := fun (W : World) (hW : Below w2.heap.size w2 W) => inside_dead base base m kb _ _ (.pointer a) bs W (HD.out.stay hW) (HN.out.stay hW)
    have HKR := Lib.hid hkR
    clear hBe hP2 hPP hrx hkR hlb
    have hBd : Below w2.heap.size w2 w2.drew := (Below.refl _ w2).drew
    have hncd := hnc _ hBd
    unfold at0 at hncd
    go_wp2_with fail
    refine wp_region_late (S := fun w' : World => w'.cell? ⟨m, 4, none⟩ = some (.slice (some ⟨g, 0, none⟩) bs.length cap) ∧ w'.cell? ⟨X, 0, none⟩ = some (.pointer a) ∧ w'.cell? ⟨kb, 1, none⟩ = some (.string kl)) (st := 22) (by kernel_rfl) ?_
    have hS : (fun w' : World => w'.cell? ⟨m, 4, none⟩ = some (.slice (some ⟨g, 0, none⟩) bs.length cap) ∧ w'.cell? ⟨X, 0, none⟩ = some (.pointer a) ∧ w'.cell? ⟨kb, 1, none⟩ = some (.string kl)) w2.drew := ⟨m4, x0, k1⟩
    refine wpAnyL_take0 (i := 0) (oi := { dst := some 58, op := Go.Op.move (Go.Operand.tmp 9), type := 24, pos := "change.go:53", after := #[], guard := none }) (v := .pointer (some ⟨m, 0, none⟩)) rfl (by kernel_rfl) (by kernel_rfl) (by kernel_rfl) (by kernel_rfl) (fun _ _ _ h => h) hS (Or.inl ⟨by rfl, fun w hSw => ?_⟩) ?_
    · go_split_ands
      go_simp
    try simp only [Act.put, List.setIfInBounds_toArray, List.set_cons_zero, List.set_cons_succ]
    refine wpAnyL_take0 (i := 1) (oi := { dst := some 59, op := Go.Op.nilCheck (Go.Operand.tmp 58), type := 0, pos := "change.go:53", after := #[{ on := 0, ground := Go.Ground.data }], guard := none }) (v := .pointer (some ⟨m, 0, none⟩)) rfl (by kernel_rfl) (by kernel_rfl) (by kernel_rfl) (by kernel_rfl) (fun _ _ _ h => h) hS (Or.inl ⟨by rfl, fun w hSw => ?_⟩) ?_
    · go_split_ands
      go_simp
    try simp only [Act.put, List.setIfInBounds_toArray, List.set_cons_zero, List.set_cons_succ]
    refine wpAnyL_take0 (i := 2) (oi := { dst := some 60, op := Go.Op.fieldAddr 132 (Go.Operand.tmp 59) 4, type := 0, pos := "change.go:53", after := #[{ on := 1, ground := Go.Ground.data }], guard := none }) (v := .pointer (some ⟨m, 4, none⟩)) rfl (by kernel_rfl) (by kernel_rfl) (by kernel_rfl) (by kernel_rfl) (fun _ _ _ h => h) hS (Or.inl ⟨by rfl, fun w hSw => ?_⟩) ?_
    · go_split_ands
      go_simp
    try simp only [Act.put, List.setIfInBounds_toArray, List.set_cons_zero, List.set_cons_succ]
    refine wpAnyL_take (i := 3) (oi := { dst := some 61, op := Go.Op.load 86 (Go.Operand.tmp 60), type := 86, pos := "change.go:53", after := #[{ on := 2, ground := Go.Ground.data }], guard := none }) (v := .slice (some ⟨g, 0, none⟩) bs.length cap) rfl (by kernel_rfl) (by kernel_rfl) (by kernel_rfl) (by kernel_rfl) (fun _ _ _ h => h) hS (Or.inl ⟨by rfl, fun w hSw => ?_⟩) ?_
    · go_split_ands
      go_simp
    try simp only [Act.put, List.setIfInBounds_toArray, List.set_cons_zero, List.set_cons_succ]
    refine wpAnyL_take0 (i := 4) (oi := { dst := some 62, op := Go.Op.move (Go.Operand.tmp 10), type := 3, pos := "change.go:53", after := #[], guard := none }) (v := .int .i64 Q) rfl (by kernel_rfl) (by kernel_rfl) (by kernel_rfl) (by kernel_rfl) (fun _ _ _ h => h) hS (Or.inl ⟨by rfl, fun w hSw => ?_⟩) ?_
    · go_split_ands
      go_simp
    try simp only [Act.put, List.setIfInBounds_toArray, List.set_cons_zero, List.set_cons_succ]
    refine wpAnyL_take (i := 5) (oi := { dst := some 63, op := Go.Op.load 126 (Go.Operand.tmp 4), type := 126, pos := "change.go:53", after := #[], guard := none }) (v := .agg #[.pointer a]) rfl (by kernel_rfl) (by kernel_rfl) (by kernel_rfl) (by kernel_rfl) (fun _ _ _ h => h) hS (Or.inl ⟨by rfl, fun w hSw => ?_⟩) ?_
    · go_split_ands
      go_simp
    try simp only [Act.put, List.setIfInBounds_toArray, List.set_cons_zero, List.set_cons_succ]
    refine wpAnyL_take (i := 6) (oi := { dst := some 64, op := Go.Op.load 126 (Go.Operand.tmp 4), type := 126, pos := "change.go:53", after := #[], guard := none }) (v := .agg #[.pointer a]) rfl (by kernel_rfl) (by kernel_rfl) (by kernel_rfl) (by kernel_rfl) (fun _ _ _ h => h) hS (Or.inl ⟨by rfl, fun w hSw => ?_⟩) ?_
    · go_split_ands
      go_simp
    try simp only [Act.put, List.setIfInBounds_toArray, List.set_cons_zero, List.set_cons_succ]
    refine wpAnyL_take0 (i := 7) (oi := { dst := some 65, op := Go.Op.move (Go.Operand.tmp 12), type := 24, pos := "change.go:53", after := #[], guard := none }) (v := .pointer (some ⟨kb, 0, none⟩)) rfl (by kernel_rfl) (by kernel_rfl) (by kernel_rfl) (by kernel_rfl) (fun _ _ _ h => h) hS (Or.inl ⟨by rfl, fun w hSw => ?_⟩) ?_
    · go_split_ands
      go_simp
    try simp only [Act.put, List.setIfInBounds_toArray, List.set_cons_zero, List.set_cons_succ]
    refine wpAnyL_take (i := 8) (oi := { dst := some 66, op := Go.Op.load 126 (Go.Operand.tmp 4), type := 126, pos := "change.go:53", after := #[], guard := none }) (v := .agg #[.pointer a]) rfl (by kernel_rfl) (by kernel_rfl) (by kernel_rfl) (by kernel_rfl) (fun _ _ _ h => h) hS (Or.inl ⟨by rfl, fun w hSw => ?_⟩) ?_
    · go_split_ands
      go_simp
    try simp only [Act.put, List.setIfInBounds_toArray, List.set_cons_zero, List.set_cons_succ]
    refine wpAnyL_take0 (i := 9) (oi := { dst := some 67, op := Go.Op.move (Go.Operand.tmp 9), type := 24, pos := "change.go:53", after := #[], guard := none }) (v := .pointer (some ⟨m, 0, none⟩)) rfl (by kernel_rfl) (by kernel_rfl) (by kernel_rfl) (by kernel_rfl) (fun _ _ _ h => h) hS (Or.inl ⟨by rfl, fun w hSw => ?_⟩) ?_
    · go_split_ands
      go_simp
    try simp only [Act.put, List.setIfInBounds_toArray, List.set_cons_zero, List.set_cons_succ]
    refine wpAnyL_take0 (i := 10) (oi := { dst := some 68, op := Go.Op.move (Go.Operand.tmp 12), type := 24, pos := "change.go:53", after := #[], guard := none }) (v := .pointer (some ⟨kb, 0, none⟩)) rfl (by kernel_rfl) (by kernel_rfl) (by kernel_rfl) (by kernel_rfl) (fun _ _ _ h => h) hS (Or.inl ⟨by rfl, fun w hSw => ?_⟩) ?_
    · go_split_ands
      go_simp
    try simp only [Act.put, List.setIfInBounds_toArray, List.set_cons_zero, List.set_cons_succ]
    refine wpAnyL_take0 (i := 12) (oi := { dst := some 70, op := Go.Op.move (Go.Operand.tmp 3), type := 9, pos := "change.go:53", after := #[], guard := none }) (v := .string rest) rfl (by kernel_rfl) (by kernel_rfl) (by kernel_rfl) (by kernel_rfl) (fun _ _ _ h => h) hS (Or.inl ⟨by rfl, fun w hSw => ?_⟩) ?_
    · go_split_ands
      go_simp
    try simp only [Act.put, List.setIfInBounds_toArray, List.set_cons_zero, List.set_cons_succ]
    refine wpAnyL_take0 (i := 13) (oi := { dst := some 71, op := Go.Op.move (Go.Operand.tmp 12), type := 24, pos := "change.go:53", after := #[], guard := none }) (v := .pointer (some ⟨kb, 0, none⟩)) rfl (by kernel_rfl) (by kernel_rfl) (by kernel_rfl) (by kernel_rfl) (fun _ _ _ h => h) hS (Or.inl ⟨by rfl, fun w hSw => ?_⟩) ?_
    · go_split_ands
      go_simp
    try simp only [Act.put, List.setIfInBounds_toArray, List.set_cons_zero, List.set_cons_succ]
    refine wpAnyL_take0 (i := 14) (oi := { dst := some 72, op := Go.Op.nilCheck (Go.Operand.tmp 71), type := 0, pos := "change.go:53", after := #[{ on := 13, ground := Go.Ground.data }], guard := none }) (v := .pointer (some ⟨kb, 0, none⟩)) rfl (by kernel_rfl) (by kernel_rfl) (by kernel_rfl) (by kernel_rfl) (fun _ _ _ h => h) hS (Or.inl ⟨by rfl, fun w hSw => ?_⟩) ?_
    · go_split_ands
      go_simp
    try simp only [Act.put, List.setIfInBounds_toArray, List.set_cons_zero, List.set_cons_succ]
    refine wpAnyL_take0 (i := 15) (oi := { dst := some 73, op := Go.Op.fieldAddr 132 (Go.Operand.tmp 72) 1, type := 0, pos := "change.go:53", after := #[{ on := 14, ground := Go.Ground.data }], guard := none }) (v := .pointer (some ⟨kb, 1, none⟩)) rfl (by kernel_rfl) (by kernel_rfl) (by kernel_rfl) (by kernel_rfl) (fun _ _ _ h => h) hS (Or.inl ⟨by rfl, fun w hSw => ?_⟩) ?_
    · go_split_ands
      go_simp
    try simp only [Act.put, List.setIfInBounds_toArray, List.set_cons_zero, List.set_cons_succ]
    refine wpAnyL_take (i := 16) (oi := { dst := some 74, op := Go.Op.load 9 (Go.Operand.tmp 73), type := 9, pos := "change.go:53", after := #[{ on := 15, ground := Go.Ground.data }], guard := none }) (v := .string kl) rfl (by kernel_rfl) (by kernel_rfl) (by kernel_rfl) (by kernel_rfl) (fun _ _ _ h => h) hS (Or.inl ⟨by rfl, fun w hSw => ?_⟩) ?_
    · go_split_ands
      go_simp
    try simp only [Act.put, List.setIfInBounds_toArray, List.set_cons_zero, List.set_cons_succ]
    refine wpAnyL_take0 (i := 17) (oi := { dst := some 75, op := Go.Op.call { callee := Go.Callee.builtin Go.Builtin.len, args := #[Go.Operand.tmp 74], argTypes := #[9] }, type := 3, pos := "change.go:53", after := #[{ on := 16, ground := Go.Ground.data }], guard := none }) (v := .int .i64 kl.size) rfl (by kernel_rfl) (by kernel_rfl) (by kernel_rfl) (by kernel_rfl) (fun _ _ _ h => h) hS (Or.inl ⟨by rfl, fun w hSw => ?_⟩) ?_
    · go_split_ands
      go_simp
    try simp only [Act.put, List.setIfInBounds_toArray, List.set_cons_zero, List.set_cons_succ]
    refine wpAnyL_take0 (i := 18) (oi := { dst := some 76, op := Go.Op.slice 9 (Go.Operand.tmp 70) (some (Go.Operand.tmp 75)) none none, type := 9, pos := "change.go:53", after := #[{ on := 12, ground := Go.Ground.data }, { on := 17, ground := Go.Ground.data }], guard := none }) (v := .string (rest.extract kl.size rest.size)) rfl (by kernel_rfl) (by kernel_rfl) (by kernel_rfl) (by kernel_rfl) (fun _ _ _ h => h) hS (Or.inl ⟨by rfl, fun w hSw => ?_⟩) ?_
    · go_split_ands
      go_simp
    try simp only [Act.put, List.setIfInBounds_toArray, List.set_cons_zero, List.set_cons_succ]
    refine wpAnyL_ready (rs := [11]) (by kernel_rfl) (by simp) ?_
    refine AllReadyL.cons (o := { dst := some 69, op := Go.Op.call { callee := Go.Callee.value (Go.Operand.func 101), args := #[Go.Operand.tmp 66, Go.Operand.tmp 67, Go.Operand.tmp 68], argTypes := #[126, 24, 24] }, type := 4, pos := "change.go:53", after := #[{ on := 8, ground := Go.Ground.data }, { on := 9, ground := Go.Ground.data }, { on := 10, ground := Go.Ground.data }], guard := none }) rfl (fun K hK => ?_) AllReadyL.nil
    go_simp
    refine (hncd).mono ?_
    rintro e w3 ⟨rfl, hB3⟩
    go_wp2_with fail
    have hSn : (fun w' : World => w'.cell? ⟨m, 4, none⟩ = some (.slice (some ⟨g, 0, none⟩) bs.length cap) ∧ w'.cell? ⟨X, 0, none⟩ = some (.pointer a) ∧ w'.cell? ⟨kb, 1, none⟩ = some (.string kl)) _ := ⟨(hB3.cell hml).trans hS.1, (hB3.cell hXl).trans hS.2.1, (hB3.cell hkbl).trans hS.2.2⟩
    refine hK.out _ _ (fun _ => hSn) ?_
    clear hK K hS
    try simp only [Act.put, List.setIfInBounds_toArray, List.set_cons_zero, List.set_cons_succ]
    have hS := hSn
    clear hSn
    have hB23 : Below w2.heap.size w2 w3 := hBd.trans hB3
    have hIHd := hIHc _ hB23
    unfold at0 at hIHd
    refine wpAnyL_ready (rs := [19]) (by kernel_rfl) (by simp) ?_
    refine AllReadyL.cons (o := { dst := some 77, op := Go.Op.call { callee := Go.Callee.value (Go.Operand.func 86), args := #[Go.Operand.tmp 64, Go.Operand.tmp 65, Go.Operand.tmp 69, Go.Operand.tmp 76], argTypes := #[126, 24, 4, 9] }, type := 24, pos := "change.go:53", after := #[{ on := 6, ground := Go.Ground.data }, { on := 7, ground := Go.Ground.data }, { on := 11, ground := Go.Ground.data }, { on := 18, ground := Go.Ground.data }, { on := 11, ground := Go.Ground.chain }], guard := none }) rfl (fun K hK => ?_) AllReadyL.nil
    go_simp
    refine (hIHd).mono ?_
    rintro e w5 ⟨b5, u, rfl, hmu, hcu, hlu, hiu, hB5⟩
    have HLU := Lib.hid hlu
    clear hlu
    go_wp2_with fail
    have hSn : (fun w' : World => w'.cell? ⟨m, 4, none⟩ = some (.slice (some ⟨g, 0, none⟩) bs.length cap) ∧ w'.cell? ⟨X, 0, none⟩ = some (.pointer a) ∧ w'.cell? ⟨kb, 1, none⟩ = some (.string kl)) _ := ⟨(hB5.cell hmB).trans hS.1, (hB5.cell hXB).trans hS.2.1, (hB5.cell hkB).trans hS.2.2⟩
    refine hK.out _ _ (fun _ => hSn) ?_
    clear hK K hS
    try simp only [Act.put, List.setIfInBounds_toArray, List.set_cons_zero, List.set_cons_succ]
    have hS := hSn
    clear hSn
    have hB25 : Below w2.heap.size w2 w5 := hB23.trans (by rw [← HBE.out]; exact hB5)
    have hjn := join_any P2 B b5 u (.pointer a) w5 ((HD.out.stay hB25).up hbB) (by rw [HBE.out]; exact hB25.size) hmu hcu (hks.del hiu) (by rw [HLU.out]; exact hkl)
    unfold at0 at hjn ⊢
    refine wpAnyL_ready (rs := [20]) (by kernel_rfl) (by simp) ?_
    refine AllReadyL.cons (o := { dst := some 78, op := Go.Op.call { callee := Go.Callee.value (Go.Operand.func 106), args := #[Go.Operand.tmp 63, Go.Operand.tmp 77], argTypes := #[126, 24] }, type := 24, pos := "change.go:53", after := #[{ on := 5, ground := Go.Ground.data }, { on := 19, ground := Go.Ground.data }, { on := 19, ground := Go.Ground.chain }], guard := none }) rfl (fun K hK => ?_) AllReadyL.nil
    go_simp
    refine (hjn).mono ?_
    rintro e w6 ⟨rfl, hmj, hB6⟩
    go_wp2_with fail
    have hSn : (fun w' : World => w'.cell? ⟨m, 4, none⟩ = some (.slice (some ⟨g, 0, none⟩) bs.length cap) ∧ w'.cell? ⟨X, 0, none⟩ = some (.pointer a) ∧ w'.cell? ⟨kb, 1, none⟩ = some (.string kl)) _ := ⟨(hB6.cell hmB).trans hS.1, (hB6.cell hXB).trans hS.2.1, (hB6.cell hkB).trans hS.2.2⟩
    refine hK.out _ _ (fun _ => hSn) ?_
    clear hK K hS
    try simp only [Act.put, List.setIfInBounds_toArray, List.set_cons_zero, List.set_cons_succ]
    have hS := hSn
    clear hSn
    have hB62 : Below w2.heap.size w2 w6 := hB25.trans (by rw [← HBE.out]; exact hB6)
    have hg6 := (hB62.cell hgl).trans hcq
    have hz6 : w6.frozen? ⟨g, Q, none⟩ = false := World.ownsRow.frozenAt (HN.out.stay hB62).row Q
    have hlu := HLU.out
    unfold at0
    refine wpAnyL_take0 (i := 21) (oi := { dst := some 79, op := Go.Op.indexAddr 86 (Go.Operand.tmp 61) (Go.Operand.tmp 62), type := 0, pos := "change.go:53", after := #[{ on := 3, ground := Go.Ground.data }, { on := 4, ground := Go.Ground.data }, { on := 0, ground := Go.Ground.phase }, { on := 1, ground := Go.Ground.phase }, { on := 2, ground := Go.Ground.phase }, { on := 3, ground := Go.Ground.phase }, { on := 4, ground := Go.Ground.phase }, { on := 5, ground := Go.Ground.phase }, { on := 6, ground := Go.Ground.phase }, { on := 7, ground := Go.Ground.phase }, { on := 8, ground := Go.Ground.phase }, { on := 9, ground := Go.Ground.phase }, { on := 10, ground := Go.Ground.phase }, { on := 11, ground := Go.Ground.phase }, { on := 12, ground := Go.Ground.phase }, { on := 13, ground := Go.Ground.phase }, { on := 14, ground := Go.Ground.phase }, { on := 15, ground := Go.Ground.phase }, { on := 16, ground := Go.Ground.phase }, { on := 17, ground := Go.Ground.phase }, { on := 18, ground := Go.Ground.phase }, { on := 19, ground := Go.Ground.phase }, { on := 20, ground := Go.Ground.phase }], guard := none }) (v := .pointer (some ⟨g, Q, none⟩)) rfl (by kernel_rfl) (by kernel_rfl) (by kernel_rfl) (by kernel_rfl) (fun _ _ _ h => h) hS (Or.inl ⟨by rfl, fun w hSw => ?_⟩) ?_
    · go_split_ands
      go_simp
    try simp only [Act.put, List.setIfInBounds_toArray, List.set_cons_zero, List.set_cons_succ]
    refine wpAnyL_ready (rs := [22]) (by kernel_rfl) (by simp) ?_
    refine AllReadyL.cons (o := { dst := none, op := Go.Op.store 24 (Go.Operand.tmp 79) (Go.Operand.tmp 78), type := 0, pos := "change.go:53", after := #[{ on := 21, ground := Go.Ground.data }, { on := 20, ground := Go.Ground.data }, { on := 20, ground := Go.Ground.chain }, { on := 0, ground := Go.Ground.phase }, { on := 1, ground := Go.Ground.phase }, { on := 2, ground := Go.Ground.phase }, { on := 3, ground := Go.Ground.phase }, { on := 4, ground := Go.Ground.phase }, { on := 5, ground := Go.Ground.phase }, { on := 6, ground := Go.Ground.phase }, { on := 7, ground := Go.Ground.phase }, { on := 8, ground := Go.Ground.phase }, { on := 9, ground := Go.Ground.phase }, { on := 10, ground := Go.Ground.phase }, { on := 11, ground := Go.Ground.phase }, { on := 12, ground := Go.Ground.phase }, { on := 13, ground := Go.Ground.phase }, { on := 14, ground := Go.Ground.phase }, { on := 15, ground := Go.Ground.phase }, { on := 16, ground := Go.Ground.phase }, { on := 17, ground := Go.Ground.phase }, { on := 18, ground := Go.Ground.phase }, { on := 19, ground := Go.Ground.phase }, { on := 20, ground := Go.Ground.phase }], guard := none }) rfl (fun K hK => ?_) AllReadyL.nil
    go_simp
    refine hK.out _ _ (late_no (by kernel_rfl)) ?_
    clear hK K
    try simp only [Act.put, List.setIfInBounds_toArray, List.set_cons_zero, List.set_cons_succ]
    refine wpAnyL_done (by kernel_rfl) ?_ _
    have hW6 : Below B w2 w6 := by rw [HBE.out]; exact hB62
    have hN6 := HN.out.belowAt hW6 hmB (fun y hy => by simp [Value.ownBlock] at hy; omega)
    have hBm6 := HBm.out.belowAt hW6 hmB
    have hBm7 := hBm6.far (p := ⟨g, Q, none⟩) (Ne.symm hgm) (.pointer (some ⟨b5, 0, none⟩))
    have hO7 : OwnK base (w6.setCell ⟨g, Q, none⟩ (at0 b5)) (.slice (some ⟨g, 0, none⟩) bs.length cap) (bs.set Q b5) := by
      have h := (World.ownsRow.stored hN6.row Q (at0 b5)).1
      unfold OwnK
      rw [List.length_set, show kcs (bs.set Q b5) = (kcs bs).set Q (at0 b5) by simp [kcs, List.map_set]]
      exact h
    have hk7 : Keep [g] w6 (w6.setCell ⟨g, Q, none⟩ (.pointer (some ⟨b5, 0, none⟩))) := (Keep.refl [g] w6).setCell (p := ⟨g, Q, none⟩) (by simp) _
    have hBl : Below base w (w6.setCell ⟨g, Q, none⟩ (.pointer (some ⟨b5, 0, none⟩))) := ((H13.out.mono hb).trans (hW6.mono hbB)).setCell (p := ⟨g, Q, none⟩) (own_ge HN.out.row g rfl) _
    have hst := step_drop (l := l) (v := v) (u := u) HC.out hQk HKE.out HLK.out hk1' hcu hlu (by rw [HRX.out] at hiu; exact hiu)
    rw [← HRK.out] at hst
    obtain ⟨hcan, hdel⟩ := hst
    clear hg6 hz6 hcq k1 m4 x0 hlu
    go_wp2_with fail
    go_ret
    refine ⟨m, .node l v (ks.set Q (joinR u)), rfl, ⟨_, bs.set Q b5, ⟨⟨o, lab, val, sh, hBm7, HE1.out, HE2.out⟩, hO7, ?_⟩, hmg, fun i c' k' hc' hk' => ?_⟩, hcan, rfl, hdel, hBl⟩
    · show (bs.set Q b5).length = (ks.set Q (joinR u)).length
      rw [List.length_set, List.length_set]; exact hN6.len
    · rw [List.getElem?_set] at hc'
      have hk'' : (ks.set Q (joinR u))[i]? = some k' := hk'
      rw [List.getElem?_set] at hk''
      by_cases hiQ : Q = i
      · subst hiQ
        rw [if_pos rfl, if_pos hQ] at hc'
        rw [if_pos rfl, if_pos hQk] at hk''
        cases hc'
        cases hk''
        have hr := hmj.rad HPP.out
        rw [HP2.out] at hr
        exact (hr.keep hk7 (fun y hy hm => by simp at hm; exact hy.2.2 hm)).mono fun y hy _ => ⟨hy.1, hy.2.1, fun e => by simp [Value.ownBlock] at e; exact hy.2.2 e.symm⟩
      · rw [if_neg hiQ] at hc' hk''
        have hr := (HK.out i c' k' hc' hk'').belowAt hW6 (fun y hy => by have := hy.2; have := HBE.out; omega)
        exact (hr.keep hk7 (fun y hy hm => by simp at hm; exact hy.1.2.2 (by rw [hm]; rfl))).mono fun y hy _ => hy.1
theorem drop_any (n : Nat) : ∀ (P : Nat → Prop) (base b : Nat) (ours : Bool) (t : RX) (tv : Value) (rest : ByteArray) (w : World), rest.size = n → DeadT base w tv → base ≤ w.heap.size → Src P base w ours b t → Can t → (∀ y, base ≤ y → P y) → Shrt 1000 t → n ≤ 1000 → (∃ v, (rest.data.toList, v) ∈ body t) →
    Calls Try.prog 86 #[.agg #[tv], at0 b, .bool ours, .string rest] w (DropPost P base t rest.data.toList w) := by
  induction n using Nat.strongRecOn with
  | ind n ih =>
    intro P base b ours t tv rest w hn hd hb hs hc hP hsh hn1 ⟨wv, hm⟩
    cases hl : rest.data.toList with
    | nil =>
      have : rest = ⟨#[]⟩ := bytes_ext (by rw [hl])
      subst this
      exact drop_here P base b ours t tv w hd hb hs hc
    | cons x s =>
      cases t with
      | node l v ks =>
        obtain ⟨k, hk, hf, y, hy, e⟩ := body_first hc hm hl
        obtain ⟨hi, hr⟩ := pos_mem hc.rises hk hf
        rw [← hl]
        exact drop_down P base b ours l v ks tv rest x s w hd hb hs hc hP hl hsh (by omega) k _ rfl hi hr y e wv hy (fun P' B b' t' rest' w' hlt hd' hb' hs' hc' hP' hsh' hm' => ih rest'.size (by omega) P' B b' false t' tv rest' w' rfl hd' hb' hs' hc' hP' hsh' (by omega) hm')
end Go.Proofs.Ytimhdegdmdilaaa
/- Value, Get. -/
namespace Go.Proofs.Ytimhdegdmdilaaa
open Go.RowKit Go.Lib
set_option linter.unusedVariables false
set_option maxRecDepth 100000
set_option linter.unnecessarySimpa false
set_option linter.unusedSimpArgs false
set_option linter.unnecessarySimpa false
set_option maxRecDepth 100000
theorem value_any (P : Nat → Prop) (b : Nat) (t : RX) (w : World) (h : RadW P w b t) : Calls Try.prog 60 #[at0 b] w fun e w' => e = .returned (.tuple #[.string (t.val.getD ByteArray.empty), .bool t.val.isSome]) ∧ Below w.heap.size w w' := by
  cases h with
  | mk h1 =>
    obtain ⟨o, lab, val, sh, e1, e2, hB, c0, c1, c2, c3, c4, c5⟩ := h1.cells
    clear h1 hB e1
    subst e2
    generalize t.val.getD ByteArray.empty = V at *
    generalize t.val.isSome = I at *
    unfold at0
    go_enter Try.func60, Try.ntmps60
    go_wp2_with fail
    go_quiet (fail)
    go_wp2_with fail
    go_ret2
    exact ⟨rfl, ⟨rfl, rfl, rfl, Nat.le_refl _, fun _ _ => rfl⟩⟩
theorem value_nil (w : World) : Calls Try.prog 60 #[.pointer none] w fun e w' => e = .returned (.tuple #[.string ⟨#[]⟩, .bool false]) ∧ w = w' := by
  go_enter Try.func60, Try.ntmps60
  go_wp2_with fail
  go_ret2
  exact ⟨rfl, rfl⟩
theorem get_nil (key : ByteArray) (w : World) : Calls Try.prog 68 #[.pointer none, .string key] w fun e w' => e = .returned (.tuple #[.string ⟨#[]⟩, .bool false]) ∧ Below w.heap.size w w' := by
  go_enter Try.func68, Try.ntmps68
  go_wp2_with fail
  go_loopw [1, 6] (fun vk vn wr => vk = .string key ∧ vn = .pointer none ∧ wr = w) (fun vk vn wr => 0)
  case atStart => exact ⟨rfl, rfl, rfl⟩
  case round =>
    obtain ⟨rfl, rfl, rfl⟩ := hrel
    go_wp2_with fail
    refine (value_nil _).mono ?_
    rintro e w' ⟨rfl, rfl⟩
    go_wp2_with fail
    go_ret2
    exact ⟨rfl, Below.refl _ _⟩
def lenV : Value → Nat | .string s => s.size | _ => 0
/-- where Get stands -/
structure GetR (P : Nat → Prop) (w : World) (t : RX) (key : ByteArray) (vk vn : Value) (wr : World) : Prop where
  ex : ∃ (r : ByteArray) (c : Nat) (k : RX), vk = .string r ∧ vn = at0 c ∧ RadW P w c k ∧ Can k ∧ Shrt 1000 k ∧ r.size ≤ 1000 ∧ (∀ v, (key.data.toList, v) ∈ body t ↔ (r.data.toList, v) ∈ body k) ∧ Below w.heap.size w wr
/-- what Get answers -/
def GetPost (t : RX) (key : ByteArray) (w : World) (e : Ending) (w' : World) : Prop := ∃ o : Option ByteArray, e = .returned (.tuple #[.string (o.getD ⟨#[]⟩), .bool o.isSome]) ∧ (∀ v, o = some v ↔ (key.data.toList, v) ∈ body t) ∧ Below w.heap.size w w'
theorem size_of (a : ByteArray) : a.data.toList.length = a.size := by rw [Array.length_toList]; rfl
theorem str_ne {rest : ByteArray} {x : UInt8} {s : List UInt8} (h : rest.data.toList = x :: s) : (rest.toList == ([] : List UInt8)) = false ∧ ∃ hp : 0 < rest.size, rest[0] = x := by
  have h1 : rest.toList ≠ [] := fun e => by rw [ByteArray.toList_eq, h] at e; cases e
  have hp : 0 < rest.size := by rw [← size_of, h]; simp only [List.length_cons]; omega
  refine ⟨by simpa using h1, hp, ?_⟩
  have : rest.data.toList[0]? = some x := by rw [h]; rfl
  rw [List.getElem?_eq_some_iff] at this
  exact this.2
theorem no_kid {k : RX} {x : UInt8} {s : List UInt8} (hc : Can k) (h : isR k.kids (x.toNat + 1) = false) (v : ByteArray) : (x :: s, v) ∉ body k := fun hm => by
  cases k with
  | node l v' ks =>
    obtain ⟨k', hk', hf, -⟩ := body_first (x := (x :: s, v)) hc hm rfl
    obtain ⟨h1, h2⟩ := pos_new hc.rises h
    rw [show (RX.node l v' ks).kids = ks from rfl] at h1 h2
    have hks := List.take_append_drop (posR ks (x.toNat + 1)) ks
    rw [← hks] at hk'
    rcases List.mem_append.1 hk' with h | h
    · have := h1 _ h; omega
    · have := h2 _ h; omega
theorem to_kid {k : RX} {x : UInt8} {s : List UInt8} (hc : Can k) (h : isR k.kids (x.toNat + 1) = true) (v : ByteArray) : (x :: s, v) ∈ body k ↔ ∃ y, (y, v) ∈ body (rat k.kids (posR k.kids (x.toNat + 1))) ∧ x :: s = (rat k.kids (posR k.kids (x.toNat + 1))).lab ++ y := by
  obtain ⟨h1, h2⟩ := pos_old h
  constructor
  · intro hm
    cases k with
    | node l v' ks =>
      obtain ⟨k', hk', hf, y, hy, e⟩ := body_first (x := (x :: s, v)) hc hm rfl
      have : k' = rat ks (posR ks (x.toNat + 1)) := rises_inj hc.rises hk' (rat_mem h1) (by rw [hf]; exact h2.symm)
      rw [this] at hy e
      exact ⟨y, hy, e⟩
  · rintro ⟨y, hy, e⟩
    exact body_mem.2 (.inr ⟨_, rat_mem h1, y, hy, e⟩)
set_option maxHeartbeats 2000000 in
theorem get_any (P : Nat → Prop) (b : Nat) (t : RX) (key : ByteArray) (w : World) (h : RadW P w b t) (hc : Can t) (hs : Shrt 1000 t) (hk : key.size ≤ 1000) : Calls Try.prog 68 #[at0 b, .string key] w (GetPost t key w) := by
  have h0 : GetR P w t key (.string key) (at0 b) w := ⟨key, b, t, rfl, rfl, h, hc, hs, hk, fun _ => Iff.rfl, Below.refl _ _⟩
  clear h hc hs hk
  unfold at0 at h0 ⊢
  go_enter Try.func68, Try.ntmps68
  go_wp2_with fail
  go_loopw [1, 6] (fun vk vn wr => GetR P w t key vk vn wr) (fun vk vn wr => lenV vk)
  case atStart => exact h0
  case round =>
    obtain ⟨r, c, k, rfl, rfl, hR, hc, hs, hr, hm, hB⟩ := hrel.ex
    clear hrel h0
    have hRr := hR.stay hB
    cases hl : r.data.toList with
    | nil =>
      have hr0 : r = ⟨#[]⟩ := bytes_ext (by rw [hl])
      subst hr0
      have kv := value_any P c k _ hRr
      have HM := Lib.hid hm
      unfold at0 at kv ⊢
      clear hR hRr hm hl
      go_wp2_with fail
      refine kv.mono ?_
      rintro e w' ⟨rfl, hB2⟩
      go_wp2_with fail
      go_ret2
      refine ⟨k.val, rfl, fun v => ?_, hB.trans (hB2.mono hB.size)⟩
      rw [HM.out v]
      exact (body_nil hc).symm
    | cons x s =>
      obtain ⟨hz, hp0, hget⟩ := str_ne hl
      have hpos : (0 : Int) < (r.size : Int) := by omega
      cases hRr with
      | @mk _ _ kv bs hN hPb hPk hK =>
      have kp := place_any P 0 c k kv bs x _ hN hK hc (fun u hu => hs.lab hc hu)
      cases hi : isR k.kids (x.toNat + 1) with
      | false =>
        rw [hi] at kp
        have HM := Lib.hid hm
        have HL := Lib.hid hl
        have HI := Lib.hid hi
        unfold at0 at kp ⊢
        clear hR hm hl hi hN hK hPb hPk
        go_wp2_with fail
        refine kp.mono ?_
        rintro e w' ⟨rfl, hB2⟩
        go_wp2_with fail
        go_ret2
        refine ⟨none, rfl, fun v => ?_, hB.trans (hB2.mono hB.size)⟩
        rw [HM.out v, HL.out]
        exact ⟨fun h => (by cases h), fun h => absurd h (no_kid hc HI.out v)⟩
      | true =>
        rw [hi] at kp
        obtain ⟨hQk, hQf⟩ := pos_old hi
        have htk := fun v => to_kid (s := s) hc hi v
        obtain ⟨Q, hQe⟩ : ∃ Q, Q = posR k.kids (x.toNat + 1) := ⟨_, rfl⟩
        rw [← hQe] at kp hQk hQf htk
        have hQ : Q < bs.length := by rw [hN.len]; exact hQk
        obtain ⟨g, cap, hkv, hcq⟩ := hN.row.at_ Q hQ
        subst hkv
        have hkb : bs[Q]? = some (bs.getD Q 0) := by rw [List.getD_eq_getElem?_getD, List.getElem?_eq_getElem hQ]; rfl
        have hkid := hK Q _ _ hkb (rat_get hQk)
        obtain ⟨u, hue⟩ : ∃ u, u = rat k.kids Q := ⟨_, rfl⟩
        have hum : u ∈ k.kids := by rw [hue]; exact rat_mem hQk
        rw [← hue] at hkid htk hQf
        obtain ⟨kb, hkbe⟩ : ∃ kb, kb = bs.getD Q 0 := ⟨_, rfl⟩
        rw [← hkbe] at hkid hcq
        have hkW : RadW P w kb u := by
          cases hR with
          | mk g1 g2 g3 g4 =>
            obtain ⟨-, -, h3, h4⟩ := (g1.stay hB).same hN
            subst h3 h4
            exact g4 Q _ _ (by rw [hkbe]; exact hkb) (by rw [hue]; exact rat_get hQk)
        obtain ⟨kv2, bs2, hkN⟩ : ∃ kv2 bs2, Nod 0 _ kb u kv2 bs2 := by
          cases hkid with | mk h1 => exact ⟨_, _, h1⟩
        have hlu := hs.lab hc hum
        obtain ⟨o, lab, val, sh, e1, e2, hBm, m0, m1, m2, m3, m4, m5⟩ := hN.cells
        obtain ⟨o', kl, kval, ksh, f1, f2, hBk, k0, k1, k2, k3, k4, k5⟩ := hkN.cells
        have hkz : kl.size = u.lab.length := by rw [← f1, size_of]
        have hmx : kl.size ≤ maxLen := by unfold maxLen; omega
        have hrx : r.size ≤ maxLen := by unfold maxLen; omega
        have hcut := fun W => Tw.cut_any r kl W hrx hmx
        have hQi : (Q : Int) < (bs.length : Int) := by omega
        have hml := hBm.lt
        have hkl := hBk.lt
        have hgl := World.block_lt_of_cell? _ _ hcq
        have HM := Lib.hid hm
        have HL := Lib.hid hl
        have HTK := Lib.hid htk
        have F1 := Lib.hid f1
        have HKZ := Lib.hid hkz
        have HUM := Lib.hid hum
        have HQF := Lib.hid hQf
        have HKD := Lib.hid (hc.kd u hum)
        unfold at0 at kp hcq ⊢
        clear hR hm hl hi hN hK hPb hPk htk f1 hkz hkbe hue hkid hkN hQe m0 m1 m2 m3 m5 k0 k2 k3 k4 k5 e1 e2 f2 hkb hBm hBk hQf
        go_wp2_with fail
        refine kp.mono ?_
        rintro e w1 ⟨rfl, hB2⟩
        have m4' := (hB2.cell hml).trans m4
        have k1' := (hB2.cell hkl).trans k1
        have hcq' := (hB2.cell hgl).trans hcq
        have hB3 := hB.trans (hB2.mono hB.size)
        have hcutw := hcut w1
        clear hcut m4 k1 hcq kp hum
        by_cases hbg : Tw.bgB r kl = true
        · rw [hbg] at hcutw
          go_wp2_with fail
          refine hcutw.mono ?_
          rintro e w2 ⟨rfl, rfl⟩
          go_wp2_with fail
          have hpre := (Tw.bgB_iff r kl).1 hbg
          have hrest : Tw.restS r kl = r.extract kl.size r.size := by unfold Tw.restS; rw [if_pos hbg]
          have hrl : (Tw.restS r kl).data.toList = r.data.toList.drop u.lab.length := by rw [hrest, Tw.ext_from, HKZ.out]
          have hul : 0 < u.lab.length := by
            cases hx : u.lab with
            | nil => exact absurd hx HKD.out.1
            | cons y ys => simp
          refine ⟨⟨_, kb, u, rfl, rfl, hkW, hc.kids u HUM.out, hs.kid HUM.out, ?_, fun v => ?_, hB3⟩, ?_⟩
          · rw [← size_of, hrl, List.length_drop, size_of]; omega
          · rw [HM.out v, HL.out, HTK.out v, hrl]
            rw [F1.out] at hpre
            obtain ⟨z, hz⟩ := hpre
            rw [← HL.out, ← hz]
            simp only [List.drop_left]
            constructor
            · rintro ⟨y, hy, e⟩
              rw [List.append_cancel_left e]; exact hy
            · intro h
              exact ⟨z, h, rfl⟩
          · show (Tw.restS r kl).size < r.size
            rw [← size_of, hrl, List.length_drop, size_of]; omega
        · have hbf : Tw.bgB r kl = false := by simpa using hbg
          rw [hbf] at hcutw
          go_wp2_with fail
          refine hcutw.mono ?_
          rintro e w2 ⟨rfl, rfl⟩
          go_wp2_with fail
          go_ret2
          refine ⟨none, rfl, fun v => ?_, hB3⟩
          rw [HM.out v, HL.out, HTK.out v]
          refine ⟨fun h => (by cases h), fun ⟨y, hy, e⟩ => absurd ((Tw.bgB_iff r kl).2 ?_) hbg⟩
          rw [F1.out, HL.out, e]
          exact ⟨y, rfl⟩
end Go.Proofs.Ytimhdegdmdilaaa
/- Put and Drop, of trees. -/
namespace Go.Proofs.Ytimhdegdmdilaaa
open Go.RowKit Go.Lib
set_option linter.unusedVariables false
set_option maxRecDepth 100000
set_option linter.unnecessarySimpa false
set_option linter.unusedSimpArgs false
set_option linter.unnecessarySimpa false
set_option maxRecDepth 100000
/-- a tree -/
structure TreeW (w : World) (b : Nat) (t : RX) : Prop where
  rad : RadW (fun _ => True) w b t
  can : Can t
  shr : Shrt 40 t
  lab : t.lab = []
theorem TreeW.below {w w' : World} {b : Nat} {t : RX} (h : TreeW w b t) (hb : Below w.heap.size w w') : TreeW w' b t := ⟨h.rad.stay hb, h.can, h.shr, h.lab⟩
theorem Shrt.more {n m : Nat} {t : RX} (h : Shrt n t) (hn : n ≤ m) : Shrt m t := fun x hx => Nat.le_trans (h x hx) hn
theorem can_one {t : RX} (h : Can t) {k : List UInt8} {v v' : ByteArray} (h1 : (k, v) ∈ body t) (h2 : (k, v') ∈ body t) : v = v' := by
  have hr := body_rises t h
  rw [List.pairwise_iff_getElem] at hr
  obtain ⟨i, hi, e1⟩ := List.mem_iff_getElem.1 h1
  obtain ⟨j, hj, e2⟩ := List.mem_iff_getElem.1 h2
  have hself : ¬ compareBytes k k < 0 := by rw [(cb_zero k k).2 rfl]; omega
  rcases Nat.lt_trichotomy i j with h | h | h
  · have := hr i j hi hj h; rw [e1, e2] at this; exact absurd this hself
  · subst h; rw [e1] at e2; exact congrArg Prod.snd e2
  · have := hr j i hj hi h; rw [e1, e2] at this; exact absurd this hself
theorem ins_same {t : RX} (h : Can t) {k : List UInt8} {v : ByteArray} (hm : (k, v) ∈ body t) : InsX k v t t := fun x => by
  constructor
  · intro hx
    by_cases e : x.1 = k
    · left
      have hx' : (k, x.2) ∈ body t := by rw [← e]; exact hx
      exact Prod.ext e (can_one h hx' hm)
    · exact .inr ⟨hx, e⟩
  · rintro (rfl | h)
    · exact hm
    · exact h.1
/-- what Put answers -/
def PutRes (b : Nat) (t : RX) (key value : ByteArray) (w : World) (e : Ending) (w' : World) : Prop :=
  ∃ (b' : Nat) (u : RX) (new : Bool), e = .returned (.tuple #[at0 b', .bool new]) ∧ (new = false ↔ ∃ v, (key.data.toList, v) ∈ body t) ∧ ((key.data.toList, value) ∈ body t → b' = b) ∧ TreeW w' b' u ∧ InsX key.data.toList value t u ∧ Below w.heap.size w w'
theorem keepP3 {w w' : World} {N M : Nat} {x y z : Value} (h : w.cell? ⟨N, 0, none⟩ = some x ∧ w.cell? ⟨M, 0, none⟩ = some y ∧ w.cell? ⟨M, 1, none⟩ = some z) (hb : Below w.heap.size w w') : w'.cell? ⟨N, 0, none⟩ = some x ∧ w'.cell? ⟨M, 0, none⟩ = some y ∧ w'.cell? ⟨M, 1, none⟩ = some z :=
  ⟨(hb.cell (World.block_lt_of_cell? w _ h.1)).trans h.1, (hb.cell (World.block_lt_of_cell? w _ h.2.1)).trans h.2.1, (hb.cell (World.block_lt_of_cell? w _ h.2.2)).trans h.2.2⟩
set_option maxHeartbeats 2000000 in
theorem put_tree (b : Nat) (t : RX) (tv : Value) (key value : ByteArray) (w : World) (hd : DeadT w.heap.size w tv) (h : TreeW w b t) (hk : key.size ≤ 40) : Calls Try.prog 53 #[tv, at0 b, .agg #[.string key, .string value]] w (PutRes b t key value w) := by
  have hB1 := (Below.refl _ w).alloc (Nat.le_refl _) (.cells #[.string key, .string value] 29)
  have hbx := Blk.new w 29 #[.string key, .string value]
  have hkg := get_any (fun _ => True) b t key _ (h.rad.stay hB1) h.can (h.shr.more (by omega)) (by omega)
  have hd1 := hd.stay hB1
  obtain ⟨a, rfl⟩ := hd.form
  have p0 : (w.alloc (.cells #[.string key, .string value] 29)).cell? ⟨w.heap.size, 0, none⟩ = some (.string key) := hbx.cell 0
  have p1 : (w.alloc (.cells #[.string key, .string value] 29)).cell? ⟨w.heap.size, 1, none⟩ = some (.string value) := hbx.cell 1
  have HH := Lib.hid h
  have HD := Lib.hid hd
  clear h hd
  unfold at0 at hkg ⊢
  go_enter Try.func53, Try.ntmps53
  go_wp2_with fail
  refine hkg.mono ?_
  rintro e w1 ⟨o, rfl, ho, hB2⟩
  obtain ⟨N, hNe⟩ : ∃ N, N = w.heap.size := ⟨_, rfl⟩
  rw [← hNe] at hbx p0 p1 ⊢
  have hbx1 := hbx.stay hB2
  have q0 : w1.cell? ⟨N, 0, none⟩ = some (.string key) := hbx1.cell 0
  have q1 : w1.cell? ⟨N, 1, none⟩ = some (.string value) := hbx1.cell 1
  have hB12 := hB1.trans (hB2.mono hB1.size)
  have hd2 := hd1.stay hB2
  have HN := Lib.hid hNe
  have HO := Lib.hid ho
  have HB := Lib.hid hB12
  clear hkg p0 p1 hbx hd1 ho hNe hB1 hB2
  by_cases hsame : o = some value
  · subst hsame
    have hv : (value.toList == value.toList) = true := by simp
    go_wp2_with fail
    go_ret2
    have hm := (HO.out value).1 rfl
    refine ⟨b, t, false, rfl, ⟨fun _ => ⟨value, hm⟩, fun _ => rfl⟩, fun _ => rfl, HH.out.below HB.out, ins_same HH.out.can hm, HB.out⟩
  · have hnew : ∀ (V : ByteArray) (f : Bool), o.getD ⟨#[]⟩ = V → o.isSome = f → f = false ∨ (V.toList == value.toList) = false := by
      rintro V f rfl rfl
      cases o with
      | none => exact .inl rfl
      | some x =>
        right
        have hne : x ≠ value := fun e => hsame (by rw [e])
        have : x.toList ≠ value.toList := fun e => hne (bytes_ext (by rw [ByteArray.toList_eq, ByteArray.toList_eq] at e; exact e))
        simpa using this
    have hsome : ∀ f : Bool, o.isSome = f → (((!f) = false) ↔ ∃ v, (key.data.toList, v) ∈ body t) := by
      rintro f rfl
      cases o with
      | none => exact ⟨fun h => by simp at h, fun ⟨v, hv⟩ => by have := (HO.out v).2 hv; cases this⟩
      | some x => exact ⟨fun _ => ⟨x, (HO.out x).1 rfl⟩, fun _ => rfl⟩
    have hnot : ¬ (key.data.toList, value) ∈ body t := fun h => hsame ((HO.out value).2 h)
    obtain ⟨M, hMe⟩ : ∃ M, M = w1.heap.size := ⟨_, rfl⟩
    have hb104 : Blk (w1.alloc (.cells #[.pointer a] 126)) M 126 #[.pointer a] := by rw [hMe]; exact Blk.new w1 126 #[.pointer a]
    have hB2 : Below w1.heap.size w1 (w1.alloc (.cells #[.pointer a] 126)) := (Below.refl _ w1).alloc (Nat.le_refl _) _
    have HM := Lib.hid hMe
    have HNOT := Lib.hid hnot
    have HS := Lib.hid (hsome _ rfl)
    have hor := hnew _ _ rfl rfl
    generalize o.getD ⟨#[]⟩ = V at *
    generalize o.isSome = f at *
    have fin : ∀ (W : World) (e : Ending) (w' : World), Below w.heap.size w W → PutPost (fun _ => True) W.heap.size false b t key.data.toList value W e w' → ∃ b' u, e = .returned (at0 b') ∧ TreeW w' b' u ∧ InsX key.data.toList value t u ∧ Below W.heap.size W w' := by
      rintro W e w' hW ⟨b', u, rfl, -, hm, hcu, hlu, hiu, hBu⟩
      exact ⟨b', u, rfl, ⟨hm.rad (fun _ _ => trivial), hcu, HH.out.shr.ins hiu (by rw [size_of]; exact hk), by rw [hlu]; exact HH.out.lab⟩, hiu, hBu⟩
    have hput : ∀ (W : World), Below w.heap.size w W → Calls Try.prog 83 #[.agg #[.pointer a], at0 b, .bool false, .string key, .string value] W fun e w' => ∃ b' u, e = .returned (at0 b') ∧ TreeW w' b' u ∧ InsX key.data.toList value t u ∧ Below W.heap.size W w' := fun W hW =>
      (put_any key.size (fun _ => True) W.heap.size b false t (.pointer a) key value W rfl ((HD.out.stay hW).up hW.size) (Nat.le_refl _) (.inr ⟨rfl, HH.out.rad.stay hW⟩) HH.out.can (fun _ _ => trivial) (HH.out.shr.more (by omega)) (by omega)).mono fun e w' h => fin W e w' hW h
    have how : ∀ (W : World), Below w.heap.size w W → Calls Try.prog 85 #[at0 b, .pointer a] W fun e w' => e = .returned (.bool false) ∧ W = w' := fun W hW => owned_dead w.heap.size b (.pointer a) W (HD.out.stay hW)
    have HPUT := Lib.hid hput
    have HOW := Lib.hid how
    have hB13 := hB12.trans (hB2.mono hB12.size)
    have g0 : (w1.alloc (.cells #[.pointer a] 126)).cell? ⟨M, 0, none⟩ = some (.pointer a) := hb104.cell 0
    have g1 := (hB2.cell (World.block_lt_of_cell? w1 _ q0)).trans q0
    have g2 := (hB2.cell (World.block_lt_of_cell? w1 _ q1)).trans q1
    obtain ⟨W2, hW2⟩ : ∃ W2, W2 = w1.alloc (.cells #[.pointer a] 126) := ⟨_, rfl⟩
    rw [← hW2] at g0 g1 g2 hB13
    have HW2 := Lib.hid hW2
    have HB13 := Lib.hid hB13
    clear hnew hsome hnot hsame fin hput how hMe hB12 hB2 hbx1 hb104 hW2 hd2 HO
    rcases f with _ | _
    · clear hor
      go_wp2_with fail
      rw [← HM.out]
      rw [← HW2.out]
      go_wp2_with fail
      have hBd : Below w.heap.size w W2.drew := hB13.trans ((Below.refl _ W2).drew.mono hB13.size)
      go_region_held3 (fun w' : World => w'.cell? ⟨M, 0, none⟩ = some (.pointer a) ∧ w'.cell? ⟨N, 0, none⟩ = some (.string key) ∧ w'.cell? ⟨N, 1, none⟩ = some (.string value)) (first | exact ⟨g0, g1, g2⟩ | exact keepP3 (by assumption) hBu | go_keep) (first
        | (have _g := hOwn; clear _g; go_at_call 83; refine (HPUT.out _ hBd).mono ?_; rintro e w4 ⟨b', u, rfl, hTu, hiu, hBu⟩; unfold at0)
        | (go_at_call 85; refine (HOW.out _ hBd).mono ?_; rintro e w3 ⟨rfl, rfl⟩; have hOwn : True := trivial))
      go_wp2_with fail
      go_ret2
      exact ⟨b', u, _, rfl, HS.out, fun h => absurd h HNOT.out, hTu, hiu, hBd.trans (hBu.mono hBd.size)⟩
    · have hz : (V.toList == value.toList) = false := by
        rcases hor with h | h
        · cases h
        · exact h
      clear hor
      go_wp2_with fail
      rw [← HM.out]
      rw [← HW2.out]
      go_wp2_with fail
      have hBd : Below w.heap.size w W2.drew := hB13.trans ((Below.refl _ W2).drew.mono hB13.size)
      go_region_held3 (fun w' : World => w'.cell? ⟨M, 0, none⟩ = some (.pointer a) ∧ w'.cell? ⟨N, 0, none⟩ = some (.string key) ∧ w'.cell? ⟨N, 1, none⟩ = some (.string value)) (first | exact ⟨g0, g1, g2⟩ | exact keepP3 (by assumption) hBu | go_keep) (first
        | (have _g := hOwn; clear _g; go_at_call 83; refine (HPUT.out _ hBd).mono ?_; rintro e w4 ⟨b', u, rfl, hTu, hiu, hBu⟩; unfold at0)
        | (go_at_call 85; refine (HOW.out _ hBd).mono ?_; rintro e w3 ⟨rfl, rfl⟩; have hOwn : True := trivial))
      go_wp2_with fail
      go_ret2
      exact ⟨b', u, _, rfl, HS.out, fun h => absurd h HNOT.out, hTu, hiu, hBd.trans (hBu.mono hBd.size)⟩
end Go.Proofs.Ytimhdegdmdilaaa
/- Drop of trees; roots that are nil; the empty tree. -/
namespace Go.Proofs.Ytimhdegdmdilaaa
open Go.RowKit Go.Lib
set_option linter.unusedVariables false
set_option maxRecDepth 100000
set_option linter.unnecessarySimpa false
set_option linter.unusedSimpArgs false
set_option linter.unnecessarySimpa false
set_option maxRecDepth 100000
/-- no pairs -/
def nilR : RX := .node [] none []
theorem nil_can : Can nilR := .mk (by simp) (by simp) (by simp)
theorem nil_body (x : Ent) : ¬ x ∈ body nilR := fun h => by
  rcases body_mem.1 h with ⟨_, h⟩ | ⟨k, hk, _⟩
  · cases h
  · simp [nilR, RX.kids] at hk
theorem TreeW.fresh {w : World} {b : Nat} (h : Blk w b 132 (freshN ⟨#[]⟩)) : TreeW w b nilR :=
  ⟨(MineW.fresh (P := fun _ => True) (base := 0) h (Nat.zero_le _)).rad (fun _ _ => trivial), nil_can, fun x hx => absurd hx (nil_body x), rfl⟩
theorem empty_any (w : World) : Calls Try.prog 56 #[] w fun e w' => ∃ b, e = .returned (at0 b) ∧ TreeW w' b nilR ∧ Below w.heap.size w w' := by
  have hB := (Below.refl _ w).alloc (Nat.le_refl _) (.cells (freshN ⟨#[]⟩) 132)
  have hN := Blk.new w 132 (freshN ⟨#[]⟩)
  have hT := TreeW.fresh hN
  clear hN
  unfold freshN at hB hT
  go_enter Try.func56, Try.ntmps56
  go_wp2_with fail
  go_ret
  exact ⟨_, rfl, hT, hB⟩
/-- what Drop answers -/
def DropRes (b : Nat) (t : RX) (key : ByteArray) (w : World) (e : Ending) (w' : World) : Prop :=
  ∃ (b' : Nat) (u : RX) (found : Bool), e = .returned (.tuple #[at0 b', .bool found]) ∧ (found = true ↔ ∃ v, (key.data.toList, v) ∈ body t) ∧ (found = false → b' = b) ∧ TreeW w' b' u ∧ DelX key.data.toList t u ∧ Below w.heap.size w w'
theorem del_same {t : RX} {k : List UInt8} (h : ¬ ∃ v, (k, v) ∈ body t) : DelX k t t := fun x => ⟨fun hx => ⟨hx, fun e => h ⟨x.2, by rw [← e]; exact hx⟩⟩, fun hx => hx.1⟩
set_option maxHeartbeats 2000000 in
theorem drop_tree (b : Nat) (t : RX) (tv : Value) (key : ByteArray) (w : World) (hd : DeadT w.heap.size w tv) (h : TreeW w b t) (hk : key.size ≤ 40) : Calls Try.prog 54 #[tv, at0 b, .string key] w (DropRes b t key w) := by
  obtain ⟨a, rfl⟩ := hd.form
  have hB1 := (Below.refl _ w).alloc (Nat.le_refl _) (.cells #[.pointer a] 126)
  have hkg := get_any (fun _ => True) b t key _ (h.rad.stay hB1) h.can (h.shr.more (by omega)) (by omega)
  have hb104 := Blk.new w 126 #[.pointer a]
  have HH := Lib.hid h
  have HD := Lib.hid hd
  clear h hd
  unfold at0 at hkg ⊢
  go_enter Try.func54, Try.ntmps54
  go_wp2_with fail
  refine hkg.mono ?_
  rintro e w1 ⟨o, rfl, ho, hB2⟩
  obtain ⟨M, hMe⟩ : ∃ M, M = w.heap.size := ⟨_, rfl⟩
  rw [← hMe] at hb104 ⊢
  have g0 : w1.cell? ⟨M, 0, none⟩ = some (.pointer a) := (hb104.stay hB2).cell 0
  have hB12 := hB1.trans (hB2.mono hB1.size)
  have hsome : ∀ f : Bool, o.isSome = f → (f = true ↔ ∃ v, (key.data.toList, v) ∈ body t) := by
    rintro f rfl
    cases o with
    | none => exact ⟨fun h => by simp at h, fun ⟨v, hv⟩ => by have := (ho v).2 hv; cases this⟩
    | some x => exact ⟨fun _ => ⟨x, (ho x).1 rfl⟩, fun _ => rfl⟩
  have HS := Lib.hid (hsome _ rfl)
  have HMM := Lib.hid hMe
  have HB := Lib.hid hB12
  generalize o.getD ⟨#[]⟩ = V at *
  generalize o.isSome = f at *
  clear hkg hMe hB1 hB2 hb104 ho hsome
  cases f with
  | false =>
    go_wp2_with fail
    go_ret2
    have hn : ¬ ∃ v, (key.data.toList, v) ∈ body t := fun h => by have := HS.out.2 h; cases this
    exact ⟨b, t, false, rfl, HS.out, fun _ => rfl, HH.out.below HB.out, del_same hn, HB.out⟩
  | true =>
    have hdrop : ∀ (W : World), Below w.heap.size w W → Calls Try.prog 86 #[.agg #[.pointer a], at0 b, .bool false, .string key] W fun e w' => ∃ b' u, e = .returned (at0 b') ∧ TreeW w' b' u ∧ DelX key.data.toList t u ∧ Below W.heap.size W w' := fun W hW => by
      refine (drop_any key.size (fun _ => True) W.heap.size b false t (.pointer a) key W rfl ((HD.out.stay hW).up hW.size) (Nat.le_refl _) (.inr ⟨rfl, HH.out.rad.stay hW⟩) HH.out.can (fun _ _ => trivial) (HH.out.shr.more (by omega)) (by omega) (HS.out.1 rfl)).mono ?_
      rintro e w' ⟨b', u, rfl, hm, hcu, hlu, hiu, hBu⟩
      exact ⟨b', u, rfl, ⟨hm.rad (fun _ _ => trivial), hcu, HH.out.shr.del hiu, by rw [hlu]; exact HH.out.lab⟩, hiu, hBu⟩
    have how : ∀ (W : World), Below w.heap.size w W → Calls Try.prog 85 #[at0 b, .pointer a] W fun e w' => e = .returned (.bool false) ∧ W = w' := fun W hW => owned_dead w.heap.size b (.pointer a) W (HD.out.stay hW)
    have HPUT := Lib.hid hdrop
    have HOW := Lib.hid how
    have hBd : Below w.heap.size w w1.drew := hB12.trans ((Below.refl _ w1).drew.mono hB12.size)
    clear hdrop how hB12
    go_wp2_with fail
    go_region_held3 (fun w' : World => w'.cell? ⟨M, 0, none⟩ = some (.pointer a)) (first | exact g0 | exact keep1 (by assumption) hBu | go_keep) (first
      | (have _g := hOwn; clear _g; go_at_call 86; refine (HPUT.out _ hBd).mono ?_; rintro e w4 ⟨b', u, rfl, hTu, hiu, hBu⟩; unfold at0)
      | (go_at_call 85; refine (HOW.out _ hBd).mono ?_; rintro e w3 ⟨rfl, rfl⟩; have hOwn : True := trivial))
    go_wp2_with fail
    go_ret2
    exact ⟨b', u, true, rfl, by simpa using HS.out, fun h => (by cases h), hTu, hiu, hBd.trans (hBu.mono hBd.size)⟩
theorem drop_nil (tv : Value) (key : ByteArray) (w : World) (hd : DeadT w.heap.size w tv) : Calls Try.prog 54 #[tv, .pointer none, .string key] w fun e w' => ∃ b, e = .returned (.tuple #[at0 b, .bool false]) ∧ TreeW w' b nilR ∧ Below w.heap.size w w' := by
  obtain ⟨a, rfl⟩ := hd.form
  have hB1 := (Below.refl _ w).alloc (Nat.le_refl _) (.cells #[.pointer a] 126)
  have kl := leaf_any w.heap.size (.pointer a) ⟨#[]⟩ _ (hd.stay hB1)
  clear hd
  go_enter Try.func54, Try.ntmps54
  go_wp2_with fail
  refine kl.mono ?_
  rintro e w1 ⟨b, rfl, hb, hBk, hB2⟩
  have hT := TreeW.fresh hBk
  clear hBk kl
  unfold at0
  go_wp2_with fail
  go_ret2
  exact ⟨b, rfl, hT, hB1.trans (hB2.mono hB1.size)⟩
set_option maxHeartbeats 2000000 in
theorem put_nil (tv : Value) (key value : ByteArray) (w : World) (hd : DeadT w.heap.size w tv) (hk : key.size ≤ 40) : Calls Try.prog 53 #[tv, .pointer none, .agg #[.string key, .string value]] w fun e w' => ∃ (b' : Nat) (u : RX), e = .returned (.tuple #[at0 b', .bool true]) ∧ TreeW w' b' u ∧ InsX key.data.toList value nilR u ∧ Below w.heap.size w w' := by
  obtain ⟨a, rfl⟩ := hd.form
  have hB1 := (Below.refl _ w).alloc (Nat.le_refl _) (.cells #[.string key, .string value] 29)
  have hbx := Blk.new w 29 #[.string key, .string value]
  have hkg := get_nil key (w.alloc (.cells #[.string key, .string value] 29))
  have HD := Lib.hid hd
  have p0 : (w.alloc (.cells #[.string key, .string value] 29)).cell? ⟨w.heap.size, 0, none⟩ = some (.string key) := hbx.cell 0
  have p1 : (w.alloc (.cells #[.string key, .string value] 29)).cell? ⟨w.heap.size, 1, none⟩ = some (.string value) := hbx.cell 1
  clear hd
  go_enter Try.func53, Try.ntmps53
  go_wp2_with fail
  refine hkg.mono ?_
  rintro e w1 ⟨rfl, hB2⟩
  obtain ⟨N, hNe⟩ : ∃ N, N = w.heap.size := ⟨_, rfl⟩
  rw [← hNe] at hbx p0 p1 ⊢
  have hbx1 := hbx.stay hB2
  have q0 : w1.cell? ⟨N, 0, none⟩ = some (.string key) := hbx1.cell 0
  have q1 : w1.cell? ⟨N, 1, none⟩ = some (.string value) := hbx1.cell 1
  have hB12 := hB1.trans (hB2.mono hB1.size)
  have HN := Lib.hid hNe
  obtain ⟨M, hMe⟩ : ∃ M, M = w1.heap.size := ⟨_, rfl⟩
  have hb104 : Blk (w1.alloc (.cells #[.pointer a] 126)) M 126 #[.pointer a] := by rw [hMe]; exact Blk.new w1 126 #[.pointer a]
  have hB3 : Below w1.heap.size w1 (w1.alloc (.cells #[.pointer a] 126)) := (Below.refl _ w1).alloc (Nat.le_refl _) _
  have hB13 := hB12.trans (hB3.mono hB12.size)
  have g0 : (w1.alloc (.cells #[.pointer a] 126)).cell? ⟨M, 0, none⟩ = some (.pointer a) := hb104.cell 0
  have g1 := (hB3.cell (World.block_lt_of_cell? w1 _ q0)).trans q0
  have g2 := (hB3.cell (World.block_lt_of_cell? w1 _ q1)).trans q1
  obtain ⟨W2, hW2⟩ : ∃ W2, W2 = w1.alloc (.cells #[.pointer a] 126) := ⟨_, rfl⟩
  rw [← hW2] at g0 g1 g2 hB13
  have HW2 := Lib.hid hW2
  have HM := Lib.hid hMe
  clear hkg p0 p1 hbx hNe hB1 hB2 hbx1 hb104 hMe hW2 hB3 q0 q1 hB12
  go_wp2_with fail
  rw [← HM.out]
  rw [← HW2.out]
  go_wp2_with fail
  have hBd : Below w.heap.size w W2.drew := hB13.trans ((Below.refl _ W2).drew.mono hB13.size)
  have kl := leaf_any w.heap.size (.pointer a) ⟨#[]⟩ W2.drew (HD.out.stay hBd)
  have kp : ∀ (L : Nat) (W : World), W2.drew.heap.size ≤ L → Blk W L 132 (freshN ⟨#[]⟩) → Below W2.drew.heap.size W2.drew W → Calls Try.prog 83 #[.agg #[.pointer a], at0 L, .bool true, .string key, .string value] W fun e w' => ∃ b' u, e = .returned (at0 b') ∧ TreeW w' b' u ∧ InsX key.data.toList value nilR u ∧ Below W2.drew.heap.size W w' := fun L W hL hBL hW => by
    refine (put_any key.size (fun _ => True) W2.drew.heap.size L true nilR (.pointer a) key value W rfl (((HD.out.stay hBd).stay hW).up hBd.size) hW.size (.inl ⟨rfl, MineW.fresh hBL hL⟩) nil_can (fun _ _ => trivial) (fun x hx => absurd hx (nil_body x)) (by omega)).mono ?_
    rintro e w' ⟨b', u, rfl, -, hm, hcu, hlu, hiu, hBu⟩
    exact ⟨b', u, rfl, ⟨hm.rad (fun _ _ => trivial), hcu, Shrt.ins (fun x hx => absurd hx (nil_body x)) hiu (by rw [size_of]; exact hk), hlu⟩, hiu, hBu⟩
  unfold at0 at kp
  go_region_held3 (fun w' : World => w'.cell? ⟨M, 0, none⟩ = some (.pointer a) ∧ w'.cell? ⟨N, 0, none⟩ = some (.string key) ∧ w'.cell? ⟨N, 1, none⟩ = some (.string value)) (first | exact ⟨g0, g1, g2⟩ | exact keepP3 (by assumption) hBu | exact keepP3 (w := W2.drew) ⟨g0, g1, g2⟩ hBu | go_keep) (first
    | (have _g := hBL; clear _g; go_at_call 83; refine (kp L _ hL hBL hBu).mono ?_; rintro e w4 ⟨b', u, rfl, hTu, hiu, hBu'⟩; have hBu2 := hBu.trans hBu'; clear hBu; have hBu := hBu2; have hOk : True := trivial)
    | (go_at_call 84; refine kl.mono ?_; rintro e w3 ⟨L, rfl, hL, hBL, hBu⟩; unfold at0))
  go_wp2_with fail
  go_ret2
  exact ⟨b', u, rfl, hTu, hiu, hBd.trans (hBu.mono hBd.size)⟩
end Go.Proofs.Ytimhdegdmdilaaa
