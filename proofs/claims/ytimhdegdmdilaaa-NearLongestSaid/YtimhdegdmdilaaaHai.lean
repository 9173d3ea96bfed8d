/- put: down to a child, or to a new branch ahead of it. -/
import Derived.Test.YtimhdegdmdilaaaHah
namespace Go.Proofs.Ytimhdegdmdilaaa
open Go.RowKit Go.Lib
set_option linter.unusedVariables false
set_option maxRecDepth 100000
set_option linter.unnecessarySimpa false
set_option linter.unusedSimpArgs false
set_option linter.unnecessarySimpa false
set_option maxRecDepth 100000
theorem below_drewN (w : World) (n : Nat) : Below w.heap.size w (w.drewN n) := ⟨rfl, rfl, rfl, Nat.le_refl _, fun _ _ => rfl⟩
theorem keep3B {w w' : World} {m X k B : Nat} {v4 x y : Value} (h : w.cell? ⟨m, 4, none⟩ = some v4 ∧ w.cell? ⟨X, 0, none⟩ = some x ∧ w.cell? ⟨k, 1, none⟩ = some y) (hb : Below B w w') (h1 : m < B) (h2 : X < B) (hk : w'.cell? ⟨k, 1, none⟩ = some y) :
    w'.cell? ⟨m, 4, none⟩ = some v4 ∧ w'.cell? ⟨X, 0, none⟩ = some x ∧ w'.cell? ⟨k, 1, none⟩ = some y := ⟨(hb.cell h1).trans h.1, (hb.cell h2).trans h.2.1, hk⟩
theorem lab_keep {P : Nat → Prop} {B k b : Nat} {w w' : World} {ins : Bool} {t u : RX} {kl : ByteArray} (hs : Src P B w ins k t) (hc : w.cell? ⟨k, 1, none⟩ = some (.string kl)) (hl : kl.data.toList = t.lab) (hb : Below B w w') (hB : ins = true ∨ k < B) (hi : ins = true → b = k) (hm : MineW P B w' b u) (hu : u.lab = t.lab) : w'.cell? ⟨k, 1, none⟩ = some (.string kl) := by
  cases ins with
  | false =>
    rcases hB with h | h
    · cases h
    · exact (hb.cell h).trans hc
  | true =>
    obtain rfl := hi rfl
    obtain ⟨kv, bs, hN, -, -⟩ := hm.ex
    obtain ⟨o, lab, val, sh, e1, e2, hB, c0, c1, -⟩ := hN.cells
    rw [c1, show lab = kl from bytes_ext (by rw [e1, hu, hl])]
theorem shrt_split {n c : Nat} {t k : RX} (h : Shrt n t) (hk : k ∈ t.kids) : Shrt n (.node (k.lab.take c) none [.node (k.lab.drop c) k.val k.kids]) := fun x hx => by
  rcases body_mem.1 hx with ⟨_, h2⟩ | ⟨u, hu, y, hy, e⟩
  · cases h2
  · simp only [RX.kids, List.mem_singleton] at hu
    subst hu
    have hy' : (y, x.2) ∈ body k := by
      have : body (.node (k.lab.drop c) k.val k.kids) = body k := by
        conv => rhs; rw [RX.eta k]
        exact body_lab _
      rw [← this]; exact hy
    have := h (k.lab ++ y, x.2) (body_mem.2 (.inr ⟨k, hk, y, hy', rfl⟩))
    rw [e]
    simp [RX.lab] at this ⊢
    omega
theorem can_split {k : RX} {c : Nat} (hc : Can k) (hk : Kd k) (hl : c < k.lab.length) : Can (.node (k.lab.take c) none [.node (k.lab.drop c) k.val k.kids]) := by
  refine .mk (fun u hu => ?_) (fun u hu => ?_) (by simp)
  · rw [List.mem_singleton] at hu
    subst hu
    exact .mk hc.kids hc.kd hc.rises
  · rw [List.mem_singleton] at hu
    subst hu
    refine ⟨fun e => ?_, hk.2⟩
    have : k.lab.drop c = [] := e
    rw [List.drop_eq_nil_iff] at this
    omega
theorem cm_pos {k : RX} {x : UInt8} {s : List UInt8} (h : fst? k = x.toNat + 1) : 0 < Tw.cmn k.lab (x :: s) := by
  cases hl : k.lab with
  | nil => unfold fst? at h; rw [hl] at h; simp at h
  | cons c r =>
    rw [fst_cons hl] at h
    have : c = x := UInt8.toNat_inj.1 (by omega)
    simp [Tw.cmn, this]
theorem size_list (a : ByteArray) : a.data.toList.length = a.size := by rw [Array.length_toList]; rfl
set_option maxHeartbeats 2000000 in
theorem put_down (P : Nat → Prop) (base b : Nat) (ours : Bool) (l : List UInt8) (v : Option ByteArray) (ks : List RX) (tv : Value) (rest value : ByteArray) (x : UInt8) (s : List UInt8) (w : World) (hd : DeadT base w tv) (hb : base ≤ w.heap.size) (h : Src P base w ours b (.node l v ks)) (hc : Can (.node l v ks)) (hP : ∀ x, base ≤ x → P x)
    (hr : rest.data.toList = x :: s) (hi : isR ks (x.toNat + 1) = true) (hsh : Shrt 1000 (.node l v ks)) (hrs : rest.size ≤ 1000)
    (hIH : ∀ (P' : Nat → Prop) (B b' : Nat) (ins : Bool) (t' : RX) (rest' : ByteArray) (w' : World), rest'.size < rest.size → DeadT B w' tv → B ≤ w'.heap.size → Src P' B w' ins b' t' → Can t' → (∀ y, B ≤ y → P' y) → Shrt 1000 t' → Calls Try.prog 83 #[.agg #[tv], at0 b', .bool ins, .string rest', .string value] w' (PutPost P' B ins b' t' rest'.data.toList value w')) :
    Calls Try.prog 83 #[.agg #[tv], at0 b, .bool ours, .string rest, .string value] w (PutPost P base ours b (.node l v ks) rest.data.toList value w) := by
  have hB1 := (Below.refl _ w).alloc (Nat.le_refl _) (.cells #[tv] 126)
  have hX1 := Blk.new w 126 #[tv]
  have hs1 : Src P base (w.alloc (.cells #[tv] 126)) ours b (.node l v ks) := by
    rcases h with ⟨e, h⟩ | ⟨e, h⟩
    · exact .inl ⟨e, h.below hB1⟩
    · exact .inr ⟨e, h.stay hB1⟩
  have hd1 := hd.stay hB1
  have ko := own_any P base b ours _ tv _ hd1 (Nat.le_trans hb hB1.size) hs1 (by have := kids_few hc; omega)
  have hkf : ks.length ≤ 257 := kids_few hc
  have hz := lab_ne hr
  obtain ⟨hp0, hget⟩ := byte0 hr
  have hpos : (0 : Int) < (rest.size : Int) := by omega
  obtain ⟨X, hXe⟩ : ∃ X, X = w.heap.size := ⟨_, rfl⟩
  obtain ⟨a, rfl⟩ := hd.form
  rw [← hXe] at hX1
  have HX := Lib.hid hXe
  have HI := Lib.hid hi
  have HR := Lib.hid hr
  have HS := Lib.hid hsh
  have HC := Lib.hid hc
  have HIH := Lib.hid hIH
  clear h hs1 hd hi hsh hc hr hXe hIH
  unfold at0 at ko ⊢
  go_enter Try.func83, Try.ntmps83
  go_wp2_with fail
  refine ko.mono ?_
  rintro e w1 ⟨m, rfl, hmb, hm, hB2⟩
  have HMB := Lib.hid hmb
  clear hmb
  obtain ⟨kv, bs, hN, hmg, hk⟩ := hm.ex
  have kp := place_any (fun x => P x ∧ x ≠ m ∧ kv.ownBlock ≠ some x) base m _ kv bs x w1 hN hk HC.out (fun k hk => HS.out.lab HC.out hk)
  rw [show (RX.node l v ks).kids = ks from rfl, HI.out] at kp
  clear ko
  unfold at0 at kp ⊢
  go_wp2_with fail
  refine kp.mono ?_
  rintro e w2 ⟨rfl, hB3⟩
  obtain ⟨hQk, hQf⟩ := pos_old HI.out
  have hstep := fun (u : RX) (r : List UInt8) => step_down (l := l) (v := v) (w := value) (u := u) (r := r) (rest := rest.data.toList) HC.out HI.out rfl
  have hsplit := fun (u : RX) (c : Nat) => step_split (l := l) (v := v) (w := value) (u := u) (s := s) (c := c) HC.out HI.out rfl
  rw [← HX.out]
  obtain ⟨Q, hQe⟩ : ∃ Q, Q = posR ks (x.toNat + 1) := ⟨_, rfl⟩
  rw [← hQe] at hQk hQf hstep hsplit ⊢
  have hQ : Q < bs.length := by rw [hN.len]; exact hQk
  have HQ := Lib.hid hQe
  have hX2 := (hX1.stay hB2).stay hB3
  have hB13 := (hB1.trans (hB2.mono hB1.size)).trans (hB3.mono (Nat.le_trans hB1.size hB2.size))
  have hmr : kv.ownBlock ≠ some m := own_ne hN.row (fun cur e => by
    obtain ⟨o, lab, val, sh, hb', -⟩ := hN.blk
    unfold Blk at hb'; rw [hb'] at e; cases e)
  have hd2 := (hd1.stay hB2).stay hB3
  have hN2 := hN.stay hB3
  have hK2 : ∀ (i c : Nat) (k : RX), bs[i]? = some c → ks[i]? = some k → RadW (fun y => (P y ∧ y ≠ m ∧ kv.ownBlock ≠ some y) ∧ y < w2.heap.size) w2 c k := fun i c k hc hk' => ((hk i c k hc hk').stay hB3).old
  have hlb : bs.length ≤ 257 := by rw [hN.len]; exact hkf
  have hb2 : base ≤ w2.heap.size := Nat.le_trans hb hB13.size
  clear kp hm hk hN hd1 hX1 hQe hB1 hB2 hB3
  obtain ⟨g, cap, hkv, hcq⟩ := hN2.row.at_ Q hQ
  subst hkv
  have hkb : bs[Q]? = some (bs.getD Q 0) := by rw [List.getD_eq_getElem?_getD, List.getElem?_eq_getElem hQ]; rfl
  have hkid := hK2 Q _ _ hkb (rat_get hQk)
  have hkc : Can (rat ks Q) := HC.out.kids _ (rat_mem hQk)
  have hks : Shrt 1000 (rat ks Q) := HS.out.kid (rat_mem hQk)
  have hkl : (rat ks Q).lab.length ≤ 1000 := HS.out.lab HC.out (rat_mem hQk)
  have hknd : Kd (rat ks Q) := HC.out.kd _ (rat_mem hQk)
  obtain ⟨kb, hkbe⟩ : ∃ kb, kb = bs.getD Q 0 := ⟨_, rfl⟩
  obtain ⟨k, hke⟩ : ∃ k, k = rat ks Q := ⟨_, rfl⟩
  rw [← hkbe] at hkid hcq
  rw [← hke] at hkid hkc hks hkl hknd hstep hsplit hQf
  have HKE := Lib.hid hke
  have HQF := Lib.hid hQf
  have HK := Lib.hid hK2
  have hQi : (Q : Int) < (bs.length : Int) := by omega
  obtain ⟨o, lab, val, sh, e1, e2, hBm, m0, m1, m2, m3, m4, m5⟩ := hN2.cells
  have hni := inside_dead base base m kb _ _ (.pointer a) bs w2 hd2 hN2
  obtain ⟨g', off', hkNod⟩ : ∃ kv' bs', Nod 0 w2 kb k kv' bs' := by
    cases hkid with | mk h1 => exact ⟨_, _, h1⟩
  obtain ⟨ko, kl, kval, ksh, f1, f2, hBk, k0, k1, k2, k3, k4, k5⟩ := hkNod.cells
  have hkls : kl.size = k.lab.length := by rw [← f1, Array.length_toList]; rfl
  have HKLS := Lib.hid hkls
  have F1 := Lib.hid f1
  have hklz : kl.size ≤ 1000 := by omega
  clear hkls f1
  have hcm := Tw.common_any kl rest
  have hml : m < w2.heap.size := hBm.lt
  have hXl : X < w2.heap.size := hX2.lt
  have hrl : ∀ y, (Value.slice (some ⟨g, 0, none⟩) bs.length cap).ownBlock = some y → y < w2.heap.size := fun y hy => hN2.row.lt hy
  have x0 := hX2.cell 0
  simp at x0
  have HN := Lib.hid hN2
  have HBm := Lib.hid hBm
  have HD := Lib.hid hd2
  have HXb := Lib.hid hX2
  have HBk := Lib.hid hBk
  have HE1 := Lib.hid e1
  have HE2 := Lib.hid e2
  have H13 := Lib.hid hB13
  have HKID := Lib.hid hkid
  have HKN := Lib.hid hkNod
  have HKB := Lib.hid hkb
  have HKBE := Lib.hid hkbe
  clear hQf hke hK2 hkbe hkb hkNod hBk hBm hN2 hd2 hX2 m0 m1 m2 m3 m5 k0 k2 k3 k4 k5 e1 e2 f2 hB13 hkid
  unfold at0 at hcq hni
  go_wp2_with fail
  refine hni.mono ?_
  rintro e w3 ⟨rfl, hB4⟩
  have m4' := (hB4.cell hml).trans m4
  have hcq' : w3.cell? ⟨g, Q, none⟩ = some (.pointer (some ⟨kb, 0, none⟩)) := (hB4.cell (World.block_lt_of_cell? w2 _ hcq)).trans hcq
  have hkbl : kb < w2.heap.size := World.block_lt_of_cell? w2 _ k1
  have k1' := (hB4.cell hkbl).trans k1
  have hcm3 := hcm w3 (by unfold maxLen; omega) (by unfold maxLen; omega)
  clear hni hcm
  go_wp2_with fail
  refine hcm3.mono ?_
  rintro e w4 ⟨rfl, n, rfl⟩
  have k1'' : (w3.drewN n).cell? ⟨kb, 1, none⟩ = some (.string kl) := k1'
  obtain ⟨w4, hw4⟩ : ∃ w4, w4 = w3.drewN n := ⟨_, rfl⟩
  rw [← hw4]
  have hB24 : Below w2.heap.size w2 w4 := by rw [hw4]; exact hB4.trans ((below_drewN w3 n).mono hB4.size)
  have q4 : w4.cell? ⟨m, 4, none⟩ = some (.slice (some ⟨g, 0, none⟩) bs.length cap) := by rw [hw4]; exact m4'
  have q1 : w4.cell? ⟨kb, 1, none⟩ = some (.string kl) := by rw [hw4]; exact k1'
  have qg : w4.cell? ⟨g, Q, none⟩ = some (.pointer (some ⟨kb, 0, none⟩)) := by rw [hw4]; exact hcq'
  have qx : w4.cell? ⟨X, 0, none⟩ = some (.pointer a) := (hB24.cell hXl).trans x0
  have hgl : g < w2.heap.size := hrl g rfl
  clear hw4 k1'' m4' k1' hcq' hcm3 hB4 hcq x0 m4 k1
  obtain ⟨B, hBe⟩ : ∃ B, B = w4.heap.size := ⟨_, rfl⟩
  have h2B : w2.heap.size ≤ B := by rw [hBe]; exact hB24.size
  have hmB : m < B := Nat.lt_of_lt_of_le hml h2B
  have hXB : X < B := Nat.lt_of_lt_of_le hXl h2B
  have hkB : kb < B := Nat.lt_of_lt_of_le hkbl h2B
  have hgB : g < B := Nat.lt_of_lt_of_le hgl h2B
  have hbB : base ≤ B := Nat.le_trans hb2 h2B
  obtain ⟨P2, hP2⟩ : ∃ P2 : Nat → Prop, P2 = fun y => P y ∧ y ≠ m ∧ y ≠ g := ⟨_, rfl⟩
  have hPP : ∀ y, B ≤ y → P2 y := fun y hy => by rw [hP2]; exact ⟨hP y (Nat.le_trans hbB hy), by omega, by omega⟩
  have hkR : RadW P2 w4 kb k := (HKID.out.mono fun y hy _ => by rw [hP2]; exact ⟨hy.1.1, hy.1.2.1, fun e => hy.1.2.2 (by rw [e]; rfl)⟩).stay hB24
  have hd4 : DeadT B w4 (.pointer a) := (HD.out.stay hB24).up hbB
  obtain ⟨c, hce⟩ : ∃ c, c = Tw.cm kl rest := ⟨_, rfl⟩
  have hcmn : c = Tw.cmn k.lab (x :: s) := by rw [hce]; unfold Tw.cm; rw [F1.out, HR.out]
  have hcl := Tw.cm_le kl rest
  rw [← hce] at hcl ⊢
  have hc0 : 0 < c := by rw [hcmn]; exact cm_pos HQF.out
  have HCE := Lib.hid hce
  have HCMN := Lib.hid hcmn
  have HBE := Lib.hid hBe
  have HPP := Lib.hid hPP
  have HP2 := Lib.hid hP2
  have HKR := Lib.hid hkR
  have HD4 := Lib.hid hd4
  have H24 := Lib.hid hB24
  clear hce hBe hPP hP2 hd4 hcmn
  by_cases hlt : c < kl.size
  · have L1 : (c : Int) < (kl.size : Int) := by omega
    have hsp := split_any P2 B kb c k (.pointer a) w4 HD4.out (by rw [HBE.out]; exact Nat.le_refl _) HKR.out HPP.out (by have := kids_few hkc; omega) (by rw [← HKLS.out]; omega) hkl
    unfold at0 at hsp
    go_wp2_with fail
    refine hsp.mono ?_
    rintro e w5 ⟨b2, rfl, -, hm2, hB5⟩
    unfold at0
    have hl2 : ∃ kl2 : ByteArray, kl2.data.toList = k.lab.take c ∧ w5.cell? ⟨b2, 1, none⟩ = some (.string kl2) ∧ b2 < w5.heap.size := by
      obtain ⟨kv2, bs2, hn2, -, -⟩ := hm2.ex
      obtain ⟨o2, lab2, val2, sh2, a1, a2, aB, b0, b1, -⟩ := hn2.cells
      exact ⟨lab2, a1, b1, hn2.lt⟩
    obtain ⟨kl2, hkl2, l1, hb2l⟩ := hl2
    have hB25 : Below w2.heap.size w2 w5 := H24.out.trans (hB5.mono H24.out.size)
    have g4 := (hB5.cell (by rw [← HBE.out]; exact hmB)).trans q4
    have gx := (hB5.cell (by rw [← HBE.out]; exact hXB)).trans qx
    have gg := (hB5.cell (by rw [← HBE.out]; exact hgB)).trans qg
    have hsz2 : kl2.size = c := by rw [← size_list, hkl2, List.length_take, ← HKLS.out]; omega
    have hkl1 : kl2.data.toList = (RX.node (k.lab.take c) none [.node (k.lab.drop c) k.val k.kids]).lab := hkl2
    have hle : (kl2.size : Int) ≤ (rest.size : Int) := by omega
    have hless : (rest.extract kl2.size rest.size).size < rest.size := by rw [ByteArray.size_extract]; omega
    have hdW : DeadT B w5.drew (.pointer a) := (HD4.out.stay hB5).stay (Below.refl _ w5).drew
    have hsW : B ≤ w5.drew.heap.size := by rw [HBE.out]; exact hB5.size
    have hSrc : Src P2 B w5.drew true b2 (.node (k.lab.take c) none [.node (k.lab.drop c) k.val k.kids]) := .inl ⟨rfl, hm2.below (Below.refl _ w5).drew⟩
    have hcanT := can_split hkc hknd (c := c) (by rw [← HKLS.out]; exact hlt)
    have hshT := shrt_split (c := c) HS.out (show k ∈ (RX.node l v ks).kids by rw [HKE.out]; exact rat_mem hQk)
    have Hsz2 := Lib.hid hsz2
    have HKL1 := Lib.hid hkl1
    clear hsp q4 q1 qg qx hsz2 hm2 hkl2 hkl1
    have hIHc := HIH.out P2 B b2 true (.node (k.lab.take c) none [.node (k.lab.drop c) k.val k.kids]) (rest.extract kl2.size rest.size) w5.drew hless hdW hsW hSrc hcanT HPP.out hshT
    have hR2 : Nod base w5.drew m (.node l v ks) (.slice (some ⟨g, 0, none⟩) bs.length cap) bs := HN.out.stay (hB25.trans ((Below.refl _ w5).drew.mono hB25.size))
    have hrow2 := hR2.row
    have fz : w5.drew.frozen? ⟨g, Q, none⟩ = false := World.ownsRow.frozenAt hrow2 Q
    unfold at0 at hIHc
    go_wp2_with fail
    refine wp_region_late (S := fun w' : World => w'.cell? ⟨m, 4, none⟩ = some (.slice (some ⟨g, 0, none⟩) bs.length cap) ∧ w'.cell? ⟨X, 0, none⟩ = some (.pointer a) ∧ w'.cell? ⟨b2, 1, none⟩ = some (.string kl2)) (st := 18) (by kernel_rfl) ?_
    have hS : (fun w' : World => w'.cell? ⟨m, 4, none⟩ = some (.slice (some ⟨g, 0, none⟩) bs.length cap) ∧ w'.cell? ⟨X, 0, none⟩ = some (.pointer a) ∧ w'.cell? ⟨b2, 1, none⟩ = some (.string kl2)) w5.drew := ⟨g4, gx, l1⟩
    refine wpAnyL_take0 (i := 0) (oi := { dst := some 86, op := Go.Op.move (Go.Operand.tmp 11), type := 24, pos := "change.go:34", after := #[], guard := none }) (v := .pointer (some ⟨m, 0, none⟩)) rfl (by kernel_rfl) (by kernel_rfl) (by kernel_rfl) (by kernel_rfl) (fun _ _ _ h => h) hS (Or.inl ⟨by rfl, fun w hSw => ?_⟩) ?_
    · go_split_ands
      go_simp
    try simp only [Act.put, List.setIfInBounds_toArray, List.set_cons_zero, List.set_cons_succ]
    refine wpAnyL_take0 (i := 1) (oi := { dst := some 87, op := Go.Op.nilCheck (Go.Operand.tmp 86), type := 0, pos := "change.go:34", after := #[{ on := 0, ground := Go.Ground.data }], guard := none }) (v := .pointer (some ⟨m, 0, none⟩)) rfl (by kernel_rfl) (by kernel_rfl) (by kernel_rfl) (by kernel_rfl) (fun _ _ _ h => h) hS (Or.inl ⟨by rfl, fun w hSw => ?_⟩) ?_
    · go_split_ands
      go_simp
    try simp only [Act.put, List.setIfInBounds_toArray, List.set_cons_zero, List.set_cons_succ]
    refine wpAnyL_take0 (i := 2) (oi := { dst := some 88, op := Go.Op.fieldAddr 132 (Go.Operand.tmp 87) 4, type := 0, pos := "change.go:34", after := #[{ on := 1, ground := Go.Ground.data }], guard := none }) (v := .pointer (some ⟨m, 4, none⟩)) rfl (by kernel_rfl) (by kernel_rfl) (by kernel_rfl) (by kernel_rfl) (fun _ _ _ h => h) hS (Or.inl ⟨by rfl, fun w hSw => ?_⟩) ?_
    · go_split_ands
      go_simp
    try simp only [Act.put, List.setIfInBounds_toArray, List.set_cons_zero, List.set_cons_succ]
    refine wpAnyL_take (i := 3) (oi := { dst := some 89, op := Go.Op.load 86 (Go.Operand.tmp 88), type := 86, pos := "change.go:34", after := #[{ on := 2, ground := Go.Ground.data }], guard := none }) (v := .slice (some ⟨g, 0, none⟩) bs.length cap) rfl (by kernel_rfl) (by kernel_rfl) (by kernel_rfl) (by kernel_rfl) (fun _ _ _ h => h) hS (Or.inl ⟨by rfl, fun w hSw => ?_⟩) ?_
    · go_split_ands
      go_simp
    try simp only [Act.put, List.setIfInBounds_toArray, List.set_cons_zero, List.set_cons_succ]
    refine wpAnyL_take0 (i := 4) (oi := { dst := some 90, op := Go.Op.move (Go.Operand.tmp 12), type := 3, pos := "change.go:34", after := #[], guard := none }) (v := .int .i64 Q) rfl (by kernel_rfl) (by kernel_rfl) (by kernel_rfl) (by kernel_rfl) (fun _ _ _ h => h) hS (Or.inl ⟨by rfl, fun w hSw => ?_⟩) ?_
    · go_split_ands
      go_simp
    try simp only [Act.put, List.setIfInBounds_toArray, List.set_cons_zero, List.set_cons_succ]
    refine wpAnyL_take (i := 5) (oi := { dst := some 91, op := Go.Op.load 126 (Go.Operand.tmp 5), type := 126, pos := "change.go:34", after := #[], guard := none }) (v := .agg #[.pointer a]) rfl (by kernel_rfl) (by kernel_rfl) (by kernel_rfl) (by kernel_rfl) (fun _ _ _ h => h) hS (Or.inl ⟨by rfl, fun w hSw => ?_⟩) ?_
    · go_split_ands
      go_simp
    try simp only [Act.put, List.setIfInBounds_toArray, List.set_cons_zero, List.set_cons_succ]
    refine wpAnyL_take0 (i := 6) (oi := { dst := some 92, op := Go.Op.move (Go.Operand.tmp 14), type := 24, pos := "change.go:34", after := #[], guard := none }) (v := .pointer (some ⟨b2, 0, none⟩)) rfl (by kernel_rfl) (by kernel_rfl) (by kernel_rfl) (by kernel_rfl) (fun _ _ _ h => h) hS (Or.inl ⟨by rfl, fun w hSw => ?_⟩) ?_
    · go_split_ands
      go_simp
    try simp only [Act.put, List.setIfInBounds_toArray, List.set_cons_zero, List.set_cons_succ]
    refine wpAnyL_take0 (i := 7) (oi := { dst := some 93, op := Go.Op.move (Go.Operand.tmp 15), type := 4, pos := "change.go:34", after := #[], guard := none }) (v := .bool true) rfl (by kernel_rfl) (by kernel_rfl) (by kernel_rfl) (by kernel_rfl) (fun _ _ _ h => h) hS (Or.inl ⟨by rfl, fun w hSw => ?_⟩) ?_
    · go_split_ands
      go_simp
    try simp only [Act.put, List.setIfInBounds_toArray, List.set_cons_zero, List.set_cons_succ]
    refine wpAnyL_take0 (i := 8) (oi := { dst := some 94, op := Go.Op.move (Go.Operand.tmp 3), type := 9, pos := "change.go:34", after := #[], guard := none }) (v := .string rest) rfl (by kernel_rfl) (by kernel_rfl) (by kernel_rfl) (by kernel_rfl) (fun _ _ _ h => h) hS (Or.inl ⟨by rfl, fun w hSw => ?_⟩) ?_
    · go_split_ands
      go_simp
    try simp only [Act.put, List.setIfInBounds_toArray, List.set_cons_zero, List.set_cons_succ]
    refine wpAnyL_take0 (i := 9) (oi := { dst := some 95, op := Go.Op.move (Go.Operand.tmp 14), type := 24, pos := "change.go:34", after := #[], guard := none }) (v := .pointer (some ⟨b2, 0, none⟩)) rfl (by kernel_rfl) (by kernel_rfl) (by kernel_rfl) (by kernel_rfl) (fun _ _ _ h => h) hS (Or.inl ⟨by rfl, fun w hSw => ?_⟩) ?_
    · go_split_ands
      go_simp
    try simp only [Act.put, List.setIfInBounds_toArray, List.set_cons_zero, List.set_cons_succ]
    refine wpAnyL_take0 (i := 10) (oi := { dst := some 96, op := Go.Op.nilCheck (Go.Operand.tmp 95), type := 0, pos := "change.go:34", after := #[{ on := 9, ground := Go.Ground.data }], guard := none }) (v := .pointer (some ⟨b2, 0, none⟩)) rfl (by kernel_rfl) (by kernel_rfl) (by kernel_rfl) (by kernel_rfl) (fun _ _ _ h => h) hS (Or.inl ⟨by rfl, fun w hSw => ?_⟩) ?_
    · go_split_ands
      go_simp
    try simp only [Act.put, List.setIfInBounds_toArray, List.set_cons_zero, List.set_cons_succ]
    refine wpAnyL_take0 (i := 11) (oi := { dst := some 97, op := Go.Op.fieldAddr 132 (Go.Operand.tmp 96) 1, type := 0, pos := "change.go:34", after := #[{ on := 10, ground := Go.Ground.data }], guard := none }) (v := .pointer (some ⟨b2, 1, none⟩)) rfl (by kernel_rfl) (by kernel_rfl) (by kernel_rfl) (by kernel_rfl) (fun _ _ _ h => h) hS (Or.inl ⟨by rfl, fun w hSw => ?_⟩) ?_
    · go_split_ands
      go_simp
    try simp only [Act.put, List.setIfInBounds_toArray, List.set_cons_zero, List.set_cons_succ]
    refine wpAnyL_take (i := 12) (oi := { dst := some 98, op := Go.Op.load 9 (Go.Operand.tmp 97), type := 9, pos := "change.go:34", after := #[{ on := 11, ground := Go.Ground.data }], guard := none }) (v := .string kl2) rfl (by kernel_rfl) (by kernel_rfl) (by kernel_rfl) (by kernel_rfl) (fun _ _ _ h => h) hS (Or.inl ⟨by rfl, fun w hSw => ?_⟩) ?_
    · go_split_ands
      go_simp
    try simp only [Act.put, List.setIfInBounds_toArray, List.set_cons_zero, List.set_cons_succ]
    refine wpAnyL_take0 (i := 13) (oi := { dst := some 99, op := Go.Op.call { callee := Go.Callee.builtin Go.Builtin.len, args := #[Go.Operand.tmp 98], argTypes := #[9] }, type := 3, pos := "change.go:34", after := #[{ on := 12, ground := Go.Ground.data }], guard := none }) (v := .int .i64 kl2.size) rfl (by kernel_rfl) (by kernel_rfl) (by kernel_rfl) (by kernel_rfl) (fun _ _ _ h => h) hS (Or.inl ⟨by rfl, fun w hSw => ?_⟩) ?_
    · go_split_ands
      go_simp
    try simp only [Act.put, List.setIfInBounds_toArray, List.set_cons_zero, List.set_cons_succ]
    refine wpAnyL_take0 (i := 14) (oi := { dst := some 100, op := Go.Op.slice 9 (Go.Operand.tmp 94) (some (Go.Operand.tmp 99)) none none, type := 9, pos := "change.go:34", after := #[{ on := 8, ground := Go.Ground.data }, { on := 13, ground := Go.Ground.data }], guard := none }) (v := .string (rest.extract kl2.size rest.size)) rfl (by kernel_rfl) (by kernel_rfl) (by kernel_rfl) (by kernel_rfl) (fun _ _ _ h => h) hS (Or.inl ⟨by rfl, fun w hSw => ?_⟩) ?_
    · go_split_ands
      go_simp
    try simp only [Act.put, List.setIfInBounds_toArray, List.set_cons_zero, List.set_cons_succ]
    refine wpAnyL_take0 (i := 15) (oi := { dst := some 101, op := Go.Op.move (Go.Operand.tmp 4), type := 9, pos := "change.go:34", after := #[], guard := none }) (v := .string value) rfl (by kernel_rfl) (by kernel_rfl) (by kernel_rfl) (by kernel_rfl) (fun _ _ _ h => h) hS (Or.inl ⟨by rfl, fun w hSw => ?_⟩) ?_
    · go_split_ands
      go_simp
    try simp only [Act.put, List.setIfInBounds_toArray, List.set_cons_zero, List.set_cons_succ]
    refine wpAnyL_ready (rs := [16]) (by kernel_rfl) (by simp) ?_
    refine AllReadyL.cons (o := { dst := some 102, op := Go.Op.call { callee := Go.Callee.value (Go.Operand.func 83), args := #[Go.Operand.tmp 91, Go.Operand.tmp 92, Go.Operand.tmp 93, Go.Operand.tmp 100, Go.Operand.tmp 101], argTypes := #[126, 24, 4, 9, 9] }, type := 24, pos := "change.go:34", after := #[{ on := 5, ground := Go.Ground.data }, { on := 6, ground := Go.Ground.data }, { on := 7, ground := Go.Ground.data }, { on := 14, ground := Go.Ground.data }, { on := 15, ground := Go.Ground.data }], guard := none }) rfl (fun K hK => ?_) AllReadyL.nil
    go_simp
    refine (hIHc).mono ?_
    rintro e w6 ⟨b6, u, rfl, hbb, hmu, hcu, hlu, hiu, hB6⟩
    have HBB := Lib.hid hbb
    clear hbb
    go_wp2_with fail
    have hSn : (fun w' : World => w'.cell? ⟨m, 4, none⟩ = some (.slice (some ⟨g, 0, none⟩) bs.length cap) ∧ w'.cell? ⟨X, 0, none⟩ = some (.pointer a) ∧ w'.cell? ⟨b2, 1, none⟩ = some (.string kl2)) _ := keep3B hS hB6 hmB hXB (lab_keep (u := u) hSrc l1 HKL1.out hB6 (.inl rfl) (fun h => HBB.out (by simpa using h)) hmu hlu)
    refine hK.out _ _ (fun _ => hSn) ?_
    clear hK K hS
    try simp only [Act.put, List.setIfInBounds_toArray, List.set_cons_zero, List.set_cons_succ]
    have hS := hSn
    clear hSn
    have hg6 := (hB6.cell hgB).trans gg
    have hz6 : w6.frozen? ⟨g, Q, none⟩ = false := World.ownsRow.frozenAt (hR2.belowAt hB6 hmB (fun y hy => by simp [Value.ownBlock] at hy; omega)).row Q
    unfold at0
    refine wpAnyL_take0 (i := 17) (oi := { dst := some 103, op := Go.Op.indexAddr 86 (Go.Operand.tmp 89) (Go.Operand.tmp 90), type := 0, pos := "change.go:34", after := #[{ on := 3, ground := Go.Ground.data }, { on := 4, ground := Go.Ground.data }, { on := 0, ground := Go.Ground.phase }, { on := 1, ground := Go.Ground.phase }, { on := 2, ground := Go.Ground.phase }, { on := 3, ground := Go.Ground.phase }, { on := 4, ground := Go.Ground.phase }, { on := 5, ground := Go.Ground.phase }, { on := 6, ground := Go.Ground.phase }, { on := 7, ground := Go.Ground.phase }, { on := 8, ground := Go.Ground.phase }, { on := 9, ground := Go.Ground.phase }, { on := 10, ground := Go.Ground.phase }, { on := 11, ground := Go.Ground.phase }, { on := 12, ground := Go.Ground.phase }, { on := 13, ground := Go.Ground.phase }, { on := 14, ground := Go.Ground.phase }, { on := 15, ground := Go.Ground.phase }, { on := 16, ground := Go.Ground.phase }], guard := none }) (v := .pointer (some ⟨g, Q, none⟩)) rfl (by kernel_rfl) (by kernel_rfl) (by kernel_rfl) (by kernel_rfl) (fun _ _ _ h => h) hS (Or.inl ⟨by rfl, fun w hSw => ?_⟩) ?_
    · go_split_ands
      go_simp
    try simp only [Act.put, List.setIfInBounds_toArray, List.set_cons_zero, List.set_cons_succ]
    refine wpAnyL_ready (rs := [18]) (by kernel_rfl) (by simp) ?_
    refine AllReadyL.cons (o := { dst := none, op := Go.Op.store 24 (Go.Operand.tmp 103) (Go.Operand.tmp 102), type := 0, pos := "change.go:34", after := #[{ on := 17, ground := Go.Ground.data }, { on := 16, ground := Go.Ground.data }, { on := 16, ground := Go.Ground.chain }, { on := 0, ground := Go.Ground.phase }, { on := 1, ground := Go.Ground.phase }, { on := 2, ground := Go.Ground.phase }, { on := 3, ground := Go.Ground.phase }, { on := 4, ground := Go.Ground.phase }, { on := 5, ground := Go.Ground.phase }, { on := 6, ground := Go.Ground.phase }, { on := 7, ground := Go.Ground.phase }, { on := 8, ground := Go.Ground.phase }, { on := 9, ground := Go.Ground.phase }, { on := 10, ground := Go.Ground.phase }, { on := 11, ground := Go.Ground.phase }, { on := 12, ground := Go.Ground.phase }, { on := 13, ground := Go.Ground.phase }, { on := 14, ground := Go.Ground.phase }, { on := 15, ground := Go.Ground.phase }, { on := 16, ground := Go.Ground.phase }], guard := none }) rfl (fun K hK => ?_) AllReadyL.nil
    go_simp
    refine hK.out _ _ (late_no (by kernel_rfl)) ?_
    clear hK K
    try simp only [Act.put, List.setIfInBounds_toArray, List.set_cons_zero, List.set_cons_succ]
    refine wpAnyL_done (by kernel_rfl) ?_ _
    have hN6 := hR2.belowAt hB6 hmB (fun y hy => by simp [Value.ownBlock] at hy; omega)
    have hBm6 : Blk w6 m 132 _ := (HBm.out.stay (hB25.trans ((Below.refl _ w5).drew.mono hB25.size))).belowAt hB6 hmB
    have hgm : g ≠ m := fun e => hmr (by rw [e]; rfl)
    have hBm7 := hBm6.far (p := ⟨g, Q, none⟩) (Ne.symm hgm) (.pointer (some ⟨b6, 0, none⟩))
    have hO7 : OwnK base (w6.setCell ⟨g, Q, none⟩ (at0 b6)) (.slice (some ⟨g, 0, none⟩) bs.length cap) (bs.set Q b6) := by
      have h := (World.ownsRow.stored hN6.row Q (at0 b6)).1
      unfold OwnK
      rw [List.length_set, show kcs (bs.set Q b6) = (kcs bs).set Q (at0 b6) by simp [kcs, List.map_set]]
      exact h
    have hk7 : Keep [g] w6 (w6.setCell ⟨g, Q, none⟩ (.pointer (some ⟨b6, 0, none⟩))) := (Keep.refl [g] w6).setCell (p := ⟨g, Q, none⟩) (by simp) _
    have hW6 : Below w2.heap.size w2 w5.drew := hB25.trans ((Below.refl _ w5).drew.mono hB25.size)
    have hBl : Below base w (w6.setCell ⟨g, Q, none⟩ (.pointer (some ⟨b6, 0, none⟩))) := ((H13.out.mono hb).trans ((hW6.mono hb2).trans (hB6.mono hbB))).setCell (p := ⟨g, Q, none⟩) (own_ge hrow2 g rfl) _
    have hst := hsplit u c HCMN.out (by rw [← HKLS.out]; exact hlt) hcu hlu (by
      have h := hiu
      rw [ext_from, Hsz2.out, HR.out] at h
      exact h)
    obtain ⟨-, hcan, hins7⟩ := hst
    rw [← HR.out] at hins7

    clear hg6 hz6 fz l1 g4 gx gg hlu
    go_wp2_with fail
    go_ret
    refine ⟨m, .node l v (ks.set Q u), rfl, HMB.out, ⟨_, bs.set Q b6, ⟨⟨o, lab, val, sh, hBm7, HE1.out, HE2.out⟩, hO7, ?_⟩, hmg, fun i c' k' hc' hk' => ?_⟩, hcan, rfl, hins7, hBl⟩
    · show (bs.set Q b6).length = (ks.set Q u).length
      rw [List.length_set, List.length_set]; exact hN6.len
    · rw [List.getElem?_set] at hc'
      have hk'' : (ks.set Q u)[i]? = some k' := hk'
      rw [List.getElem?_set] at hk''
      by_cases hiQ : Q = i
      · subst hiQ
        rw [if_pos rfl, if_pos hQ] at hc'
        rw [if_pos rfl, if_pos hQk] at hk''
        cases hc'
        cases hk''
        have hr := hmu.rad HPP.out
        rw [HP2.out] at hr
        exact (hr.keep hk7 (fun y hy hm => by simp at hm; exact hy.2.2 hm)).mono fun y hy _ => ⟨hy.1, hy.2.1, fun e => by simp [Value.ownBlock] at e; exact hy.2.2 e.symm⟩
      · rw [if_neg hiQ] at hc' hk''
        have hr := ((HK.out i c' k' hc' hk'').stay hW6).belowAt hB6 (fun y hy => by have := hy.2; omega)
        exact (hr.keep hk7 (fun y hy hm => by simp at hm; exact hy.1.2.2 (by rw [hm]; rfl))).mono fun y hy _ => hy.1
  · have L1 : ¬ ((c : Int) < (kl.size : Int)) := by omega
    have g4 := q4
    have gx := qx
    have gg := qg
    have l1 := q1
    have hce : c = kl.size := by omega
    have hkl1 := F1.out
    have hle : (kl.size : Int) ≤ (rest.size : Int) := by omega
    have hless : (rest.extract kl.size rest.size).size < rest.size := by rw [ByteArray.size_extract]; omega
    have hdW : DeadT B w4.drew (.pointer a) := HD4.out.stay (Below.refl _ w4).drew
    have hsW : B ≤ w4.drew.heap.size := by rw [HBE.out]; exact Nat.le_refl _
    have hSrc : Src P2 B w4.drew false kb k := .inr ⟨rfl, HKR.out.stay (Below.refl _ w4).drew⟩
    have hcanT := hkc
    have hshT := hks
    have HCE2 := Lib.hid hce
    have HKL1 := Lib.hid hkl1
    clear q4 q1 qg qx hce hkl1
    have hIHc := HIH.out P2 B kb false k (rest.extract kl.size rest.size) w4.drew hless hdW hsW hSrc hcanT HPP.out hshT
    have hR2 : Nod base w4.drew m (.node l v ks) (.slice (some ⟨g, 0, none⟩) bs.length cap) bs := HN.out.stay (H24.out.trans ((Below.refl _ w4).drew.mono H24.out.size))
    have hrow2 := hR2.row
    have fz : w4.drew.frozen? ⟨g, Q, none⟩ = false := World.ownsRow.frozenAt hrow2 Q
    unfold at0 at hIHc
    go_wp2_with fail
    refine wp_region_late (S := fun w' : World => w'.cell? ⟨m, 4, none⟩ = some (.slice (some ⟨g, 0, none⟩) bs.length cap) ∧ w'.cell? ⟨X, 0, none⟩ = some (.pointer a) ∧ w'.cell? ⟨kb, 1, none⟩ = some (.string kl)) (st := 18) (by kernel_rfl) ?_
    have hS : (fun w' : World => w'.cell? ⟨m, 4, none⟩ = some (.slice (some ⟨g, 0, none⟩) bs.length cap) ∧ w'.cell? ⟨X, 0, none⟩ = some (.pointer a) ∧ w'.cell? ⟨kb, 1, none⟩ = some (.string kl)) w4.drew := ⟨g4, gx, l1⟩
    refine wpAnyL_take0 (i := 0) (oi := { dst := some 86, op := Go.Op.move (Go.Operand.tmp 11), type := 24, pos := "change.go:34", after := #[], guard := none }) (v := .pointer (some ⟨m, 0, none⟩)) rfl (by kernel_rfl) (by kernel_rfl) (by kernel_rfl) (by kernel_rfl) (fun _ _ _ h => h) hS (Or.inl ⟨by rfl, fun w hSw => ?_⟩) ?_
    · go_split_ands
      go_simp
    try simp only [Act.put, List.setIfInBounds_toArray, List.set_cons_zero, List.set_cons_succ]
    refine wpAnyL_take0 (i := 1) (oi := { dst := some 87, op := Go.Op.nilCheck (Go.Operand.tmp 86), type := 0, pos := "change.go:34", after := #[{ on := 0, ground := Go.Ground.data }], guard := none }) (v := .pointer (some ⟨m, 0, none⟩)) rfl (by kernel_rfl) (by kernel_rfl) (by kernel_rfl) (by kernel_rfl) (fun _ _ _ h => h) hS (Or.inl ⟨by rfl, fun w hSw => ?_⟩) ?_
    · go_split_ands
      go_simp
    try simp only [Act.put, List.setIfInBounds_toArray, List.set_cons_zero, List.set_cons_succ]
    refine wpAnyL_take0 (i := 2) (oi := { dst := some 88, op := Go.Op.fieldAddr 132 (Go.Operand.tmp 87) 4, type := 0, pos := "change.go:34", after := #[{ on := 1, ground := Go.Ground.data }], guard := none }) (v := .pointer (some ⟨m, 4, none⟩)) rfl (by kernel_rfl) (by kernel_rfl) (by kernel_rfl) (by kernel_rfl) (fun _ _ _ h => h) hS (Or.inl ⟨by rfl, fun w hSw => ?_⟩) ?_
    · go_split_ands
      go_simp
    try simp only [Act.put, List.setIfInBounds_toArray, List.set_cons_zero, List.set_cons_succ]
    refine wpAnyL_take (i := 3) (oi := { dst := some 89, op := Go.Op.load 86 (Go.Operand.tmp 88), type := 86, pos := "change.go:34", after := #[{ on := 2, ground := Go.Ground.data }], guard := none }) (v := .slice (some ⟨g, 0, none⟩) bs.length cap) rfl (by kernel_rfl) (by kernel_rfl) (by kernel_rfl) (by kernel_rfl) (fun _ _ _ h => h) hS (Or.inl ⟨by rfl, fun w hSw => ?_⟩) ?_
    · go_split_ands
      go_simp
    try simp only [Act.put, List.setIfInBounds_toArray, List.set_cons_zero, List.set_cons_succ]
    refine wpAnyL_take0 (i := 4) (oi := { dst := some 90, op := Go.Op.move (Go.Operand.tmp 12), type := 3, pos := "change.go:34", after := #[], guard := none }) (v := .int .i64 Q) rfl (by kernel_rfl) (by kernel_rfl) (by kernel_rfl) (by kernel_rfl) (fun _ _ _ h => h) hS (Or.inl ⟨by rfl, fun w hSw => ?_⟩) ?_
    · go_split_ands
      go_simp
    try simp only [Act.put, List.setIfInBounds_toArray, List.set_cons_zero, List.set_cons_succ]
    refine wpAnyL_take (i := 5) (oi := { dst := some 91, op := Go.Op.load 126 (Go.Operand.tmp 5), type := 126, pos := "change.go:34", after := #[], guard := none }) (v := .agg #[.pointer a]) rfl (by kernel_rfl) (by kernel_rfl) (by kernel_rfl) (by kernel_rfl) (fun _ _ _ h => h) hS (Or.inl ⟨by rfl, fun w hSw => ?_⟩) ?_
    · go_split_ands
      go_simp
    try simp only [Act.put, List.setIfInBounds_toArray, List.set_cons_zero, List.set_cons_succ]
    refine wpAnyL_take0 (i := 6) (oi := { dst := some 92, op := Go.Op.move (Go.Operand.tmp 14), type := 24, pos := "change.go:34", after := #[], guard := none }) (v := .pointer (some ⟨kb, 0, none⟩)) rfl (by kernel_rfl) (by kernel_rfl) (by kernel_rfl) (by kernel_rfl) (fun _ _ _ h => h) hS (Or.inl ⟨by rfl, fun w hSw => ?_⟩) ?_
    · go_split_ands
      go_simp
    try simp only [Act.put, List.setIfInBounds_toArray, List.set_cons_zero, List.set_cons_succ]
    refine wpAnyL_take0 (i := 7) (oi := { dst := some 93, op := Go.Op.move (Go.Operand.tmp 15), type := 4, pos := "change.go:34", after := #[], guard := none }) (v := .bool false) rfl (by kernel_rfl) (by kernel_rfl) (by kernel_rfl) (by kernel_rfl) (fun _ _ _ h => h) hS (Or.inl ⟨by rfl, fun w hSw => ?_⟩) ?_
    · go_split_ands
      go_simp
    try simp only [Act.put, List.setIfInBounds_toArray, List.set_cons_zero, List.set_cons_succ]
    refine wpAnyL_take0 (i := 8) (oi := { dst := some 94, op := Go.Op.move (Go.Operand.tmp 3), type := 9, pos := "change.go:34", after := #[], guard := none }) (v := .string rest) rfl (by kernel_rfl) (by kernel_rfl) (by kernel_rfl) (by kernel_rfl) (fun _ _ _ h => h) hS (Or.inl ⟨by rfl, fun w hSw => ?_⟩) ?_
    · go_split_ands
      go_simp
    try simp only [Act.put, List.setIfInBounds_toArray, List.set_cons_zero, List.set_cons_succ]
    refine wpAnyL_take0 (i := 9) (oi := { dst := some 95, op := Go.Op.move (Go.Operand.tmp 14), type := 24, pos := "change.go:34", after := #[], guard := none }) (v := .pointer (some ⟨kb, 0, none⟩)) rfl (by kernel_rfl) (by kernel_rfl) (by kernel_rfl) (by kernel_rfl) (fun _ _ _ h => h) hS (Or.inl ⟨by rfl, fun w hSw => ?_⟩) ?_
    · go_split_ands
      go_simp
    try simp only [Act.put, List.setIfInBounds_toArray, List.set_cons_zero, List.set_cons_succ]
    refine wpAnyL_take0 (i := 10) (oi := { dst := some 96, op := Go.Op.nilCheck (Go.Operand.tmp 95), type := 0, pos := "change.go:34", after := #[{ on := 9, ground := Go.Ground.data }], guard := none }) (v := .pointer (some ⟨kb, 0, none⟩)) rfl (by kernel_rfl) (by kernel_rfl) (by kernel_rfl) (by kernel_rfl) (fun _ _ _ h => h) hS (Or.inl ⟨by rfl, fun w hSw => ?_⟩) ?_
    · go_split_ands
      go_simp
    try simp only [Act.put, List.setIfInBounds_toArray, List.set_cons_zero, List.set_cons_succ]
    refine wpAnyL_take0 (i := 11) (oi := { dst := some 97, op := Go.Op.fieldAddr 132 (Go.Operand.tmp 96) 1, type := 0, pos := "change.go:34", after := #[{ on := 10, ground := Go.Ground.data }], guard := none }) (v := .pointer (some ⟨kb, 1, none⟩)) rfl (by kernel_rfl) (by kernel_rfl) (by kernel_rfl) (by kernel_rfl) (fun _ _ _ h => h) hS (Or.inl ⟨by rfl, fun w hSw => ?_⟩) ?_
    · go_split_ands
      go_simp
    try simp only [Act.put, List.setIfInBounds_toArray, List.set_cons_zero, List.set_cons_succ]
    refine wpAnyL_take (i := 12) (oi := { dst := some 98, op := Go.Op.load 9 (Go.Operand.tmp 97), type := 9, pos := "change.go:34", after := #[{ on := 11, ground := Go.Ground.data }], guard := none }) (v := .string kl) rfl (by kernel_rfl) (by kernel_rfl) (by kernel_rfl) (by kernel_rfl) (fun _ _ _ h => h) hS (Or.inl ⟨by rfl, fun w hSw => ?_⟩) ?_
    · go_split_ands
      go_simp
    try simp only [Act.put, List.setIfInBounds_toArray, List.set_cons_zero, List.set_cons_succ]
    refine wpAnyL_take0 (i := 13) (oi := { dst := some 99, op := Go.Op.call { callee := Go.Callee.builtin Go.Builtin.len, args := #[Go.Operand.tmp 98], argTypes := #[9] }, type := 3, pos := "change.go:34", after := #[{ on := 12, ground := Go.Ground.data }], guard := none }) (v := .int .i64 kl.size) rfl (by kernel_rfl) (by kernel_rfl) (by kernel_rfl) (by kernel_rfl) (fun _ _ _ h => h) hS (Or.inl ⟨by rfl, fun w hSw => ?_⟩) ?_
    · go_split_ands
      go_simp
    try simp only [Act.put, List.setIfInBounds_toArray, List.set_cons_zero, List.set_cons_succ]
    refine wpAnyL_take0 (i := 14) (oi := { dst := some 100, op := Go.Op.slice 9 (Go.Operand.tmp 94) (some (Go.Operand.tmp 99)) none none, type := 9, pos := "change.go:34", after := #[{ on := 8, ground := Go.Ground.data }, { on := 13, ground := Go.Ground.data }], guard := none }) (v := .string (rest.extract kl.size rest.size)) rfl (by kernel_rfl) (by kernel_rfl) (by kernel_rfl) (by kernel_rfl) (fun _ _ _ h => h) hS (Or.inl ⟨by rfl, fun w hSw => ?_⟩) ?_
    · go_split_ands
      go_simp
    try simp only [Act.put, List.setIfInBounds_toArray, List.set_cons_zero, List.set_cons_succ]
    refine wpAnyL_take0 (i := 15) (oi := { dst := some 101, op := Go.Op.move (Go.Operand.tmp 4), type := 9, pos := "change.go:34", after := #[], guard := none }) (v := .string value) rfl (by kernel_rfl) (by kernel_rfl) (by kernel_rfl) (by kernel_rfl) (fun _ _ _ h => h) hS (Or.inl ⟨by rfl, fun w hSw => ?_⟩) ?_
    · go_split_ands
      go_simp
    try simp only [Act.put, List.setIfInBounds_toArray, List.set_cons_zero, List.set_cons_succ]
    refine wpAnyL_ready (rs := [16]) (by kernel_rfl) (by simp) ?_
    refine AllReadyL.cons (o := { dst := some 102, op := Go.Op.call { callee := Go.Callee.value (Go.Operand.func 83), args := #[Go.Operand.tmp 91, Go.Operand.tmp 92, Go.Operand.tmp 93, Go.Operand.tmp 100, Go.Operand.tmp 101], argTypes := #[126, 24, 4, 9, 9] }, type := 24, pos := "change.go:34", after := #[{ on := 5, ground := Go.Ground.data }, { on := 6, ground := Go.Ground.data }, { on := 7, ground := Go.Ground.data }, { on := 14, ground := Go.Ground.data }, { on := 15, ground := Go.Ground.data }], guard := none }) rfl (fun K hK => ?_) AllReadyL.nil
    go_simp
    refine (hIHc).mono ?_
    rintro e w6 ⟨b6, u, rfl, hbb, hmu, hcu, hlu, hiu, hB6⟩
    have HBB := Lib.hid hbb
    clear hbb
    go_wp2_with fail
    have hSn : (fun w' : World => w'.cell? ⟨m, 4, none⟩ = some (.slice (some ⟨g, 0, none⟩) bs.length cap) ∧ w'.cell? ⟨X, 0, none⟩ = some (.pointer a) ∧ w'.cell? ⟨kb, 1, none⟩ = some (.string kl)) _ := keep3B hS hB6 hmB hXB (lab_keep (u := u) hSrc l1 HKL1.out hB6 (.inr hkB) (fun h => HBB.out (by simpa using h)) hmu hlu)
    refine hK.out _ _ (fun _ => hSn) ?_
    clear hK K hS
    try simp only [Act.put, List.setIfInBounds_toArray, List.set_cons_zero, List.set_cons_succ]
    have hS := hSn
    clear hSn
    have hg6 := (hB6.cell hgB).trans gg
    have hz6 : w6.frozen? ⟨g, Q, none⟩ = false := World.ownsRow.frozenAt (hR2.belowAt hB6 hmB (fun y hy => by simp [Value.ownBlock] at hy; omega)).row Q
    unfold at0
    refine wpAnyL_take0 (i := 17) (oi := { dst := some 103, op := Go.Op.indexAddr 86 (Go.Operand.tmp 89) (Go.Operand.tmp 90), type := 0, pos := "change.go:34", after := #[{ on := 3, ground := Go.Ground.data }, { on := 4, ground := Go.Ground.data }, { on := 0, ground := Go.Ground.phase }, { on := 1, ground := Go.Ground.phase }, { on := 2, ground := Go.Ground.phase }, { on := 3, ground := Go.Ground.phase }, { on := 4, ground := Go.Ground.phase }, { on := 5, ground := Go.Ground.phase }, { on := 6, ground := Go.Ground.phase }, { on := 7, ground := Go.Ground.phase }, { on := 8, ground := Go.Ground.phase }, { on := 9, ground := Go.Ground.phase }, { on := 10, ground := Go.Ground.phase }, { on := 11, ground := Go.Ground.phase }, { on := 12, ground := Go.Ground.phase }, { on := 13, ground := Go.Ground.phase }, { on := 14, ground := Go.Ground.phase }, { on := 15, ground := Go.Ground.phase }, { on := 16, ground := Go.Ground.phase }], guard := none }) (v := .pointer (some ⟨g, Q, none⟩)) rfl (by kernel_rfl) (by kernel_rfl) (by kernel_rfl) (by kernel_rfl) (fun _ _ _ h => h) hS (Or.inl ⟨by rfl, fun w hSw => ?_⟩) ?_
    · go_split_ands
      go_simp
    try simp only [Act.put, List.setIfInBounds_toArray, List.set_cons_zero, List.set_cons_succ]
    refine wpAnyL_ready (rs := [18]) (by kernel_rfl) (by simp) ?_
    refine AllReadyL.cons (o := { dst := none, op := Go.Op.store 24 (Go.Operand.tmp 103) (Go.Operand.tmp 102), type := 0, pos := "change.go:34", after := #[{ on := 17, ground := Go.Ground.data }, { on := 16, ground := Go.Ground.data }, { on := 16, ground := Go.Ground.chain }, { on := 0, ground := Go.Ground.phase }, { on := 1, ground := Go.Ground.phase }, { on := 2, ground := Go.Ground.phase }, { on := 3, ground := Go.Ground.phase }, { on := 4, ground := Go.Ground.phase }, { on := 5, ground := Go.Ground.phase }, { on := 6, ground := Go.Ground.phase }, { on := 7, ground := Go.Ground.phase }, { on := 8, ground := Go.Ground.phase }, { on := 9, ground := Go.Ground.phase }, { on := 10, ground := Go.Ground.phase }, { on := 11, ground := Go.Ground.phase }, { on := 12, ground := Go.Ground.phase }, { on := 13, ground := Go.Ground.phase }, { on := 14, ground := Go.Ground.phase }, { on := 15, ground := Go.Ground.phase }, { on := 16, ground := Go.Ground.phase }], guard := none }) rfl (fun K hK => ?_) AllReadyL.nil
    go_simp
    refine hK.out _ _ (late_no (by kernel_rfl)) ?_
    clear hK K
    try simp only [Act.put, List.setIfInBounds_toArray, List.set_cons_zero, List.set_cons_succ]
    refine wpAnyL_done (by kernel_rfl) ?_ _
    have hN6 := hR2.belowAt hB6 hmB (fun y hy => by simp [Value.ownBlock] at hy; omega)
    have hBm6 : Blk w6 m 132 _ := (HBm.out.stay (H24.out.trans ((Below.refl _ w4).drew.mono H24.out.size))).belowAt hB6 hmB
    have hgm : g ≠ m := fun e => hmr (by rw [e]; rfl)
    have hBm7 := hBm6.far (p := ⟨g, Q, none⟩) (Ne.symm hgm) (.pointer (some ⟨b6, 0, none⟩))
    have hO7 : OwnK base (w6.setCell ⟨g, Q, none⟩ (at0 b6)) (.slice (some ⟨g, 0, none⟩) bs.length cap) (bs.set Q b6) := by
      have h := (World.ownsRow.stored hN6.row Q (at0 b6)).1
      unfold OwnK
      rw [List.length_set, show kcs (bs.set Q b6) = (kcs bs).set Q (at0 b6) by simp [kcs, List.map_set]]
      exact h
    have hk7 : Keep [g] w6 (w6.setCell ⟨g, Q, none⟩ (.pointer (some ⟨b6, 0, none⟩))) := (Keep.refl [g] w6).setCell (p := ⟨g, Q, none⟩) (by simp) _
    have hW6 : Below w2.heap.size w2 w4.drew := H24.out.trans ((Below.refl _ w4).drew.mono H24.out.size)
    have hBl : Below base w (w6.setCell ⟨g, Q, none⟩ (.pointer (some ⟨b6, 0, none⟩))) := ((H13.out.mono hb).trans ((hW6.mono hb2).trans (hB6.mono hbB))).setCell (p := ⟨g, Q, none⟩) (own_ge hrow2 g rfl) _
    have hpre : rest.data.toList = k.lab ++ (rest.extract kl.size rest.size).data.toList := by
      have h := Tw.cmn_take k.lab (x :: s)
      rw [← HCMN.out, HCE2.out, HKLS.out, List.take_length, ← HR.out] at h
      rw [ext_from, HKLS.out]
      conv => lhs; rw [← List.take_append_drop k.lab.length rest.data.toList]
      rw [← h]
    obtain ⟨hcan, hins7⟩ := hstep u _ hpre hcu hlu hiu
    clear hpre

    clear hg6 hz6 fz l1 g4 gx gg hlu
    go_wp2_with fail
    go_ret
    refine ⟨m, .node l v (ks.set Q u), rfl, HMB.out, ⟨_, bs.set Q b6, ⟨⟨o, lab, val, sh, hBm7, HE1.out, HE2.out⟩, hO7, ?_⟩, hmg, fun i c' k' hc' hk' => ?_⟩, hcan, rfl, hins7, hBl⟩
    · show (bs.set Q b6).length = (ks.set Q u).length
      rw [List.length_set, List.length_set]; exact hN6.len
    · rw [List.getElem?_set] at hc'
      have hk'' : (ks.set Q u)[i]? = some k' := hk'
      rw [List.getElem?_set] at hk''
      by_cases hiQ : Q = i
      · subst hiQ
        rw [if_pos rfl, if_pos hQ] at hc'
        rw [if_pos rfl, if_pos hQk] at hk''
        cases hc'
        cases hk''
        have hr := hmu.rad HPP.out
        rw [HP2.out] at hr
        exact (hr.keep hk7 (fun y hy hm => by simp at hm; exact hy.2.2 hm)).mono fun y hy _ => ⟨hy.1, hy.2.1, fun e => by simp [Value.ownBlock] at e; exact hy.2.2 e.symm⟩
      · rw [if_neg hiQ] at hc' hk''
        have hr := ((HK.out i c' k' hc' hk'').stay hW6).belowAt hB6 (fun y hy => by have := hy.2; omega)
        exact (hr.keep hk7 (fun y hy hm => by simp at hm; exact hy.1.2.2 (by rw [hm]; rfl))).mono fun y hy _ => hy.1

end Go.Proofs.Ytimhdegdmdilaaa
/- put, whole. -/
namespace Go.Proofs.Ytimhdegdmdilaaa
open Go.RowKit Go.Lib
set_option linter.unusedVariables false
set_option maxRecDepth 100000
set_option linter.unnecessarySimpa false
set_option linter.unusedSimpArgs false
set_option linter.unnecessarySimpa false
set_option maxRecDepth 100000
theorem put_any (n : Nat) : ∀ (P : Nat → Prop) (base b : Nat) (ours : Bool) (t : RX) (tv : Value) (rest value : ByteArray) (w : World), rest.size = n → DeadT base w tv → base ≤ w.heap.size → Src P base w ours b t → Can t → (∀ y, base ≤ y → P y) → Shrt 1000 t → n ≤ 1000 →
    Calls Try.prog 83 #[.agg #[tv], at0 b, .bool ours, .string rest, .string value] w (PutPost P base ours b t rest.data.toList value w) := by
  induction n using Nat.strongRecOn with
  | ind n ih =>
    intro P base b ours t tv rest value w hn hd hb hs hc hP hsh hn1
    cases hl : rest.data.toList with
    | nil =>
      have : rest = ⟨#[]⟩ := bytes_ext (by rw [hl])
      subst this
      exact put_here P base b ours t tv value w hd hb hs hc
    | cons x s =>
      cases t with
      | node l v ks =>
        rw [← hl]
        cases hi : isR ks (x.toNat + 1) with
        | false => exact put_new P base b ours l v ks tv rest value x s w hd hb hs hc hP hl hi (fun k hk => hsh.lab hc hk)
        | true => exact put_down P base b ours l v ks tv rest value x s w hd hb hs hc hP hl hi hsh (by omega) (fun P' B b' ins t' rest' w' hlt hd' hb' hs' hc' hP' hsh' => ih rest'.size (by omega) P' B b' ins t' tv rest' value w' rfl hd' hb' hs' hc' hP' hsh' (by omega))
end Go.Proofs.Ytimhdegdmdilaaa
