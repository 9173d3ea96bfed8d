/- The reference's groups. -/
import Derived.Test.YtchimfgbdfmegabHal
import Derived.Test.YtchimfgbdfmegabHag
import Derived.Deep.AppendLies
namespace Go.Proofs.Ytchimfgbdfmegab
open Go.RowKit Go.Lib
set_option linter.unusedVariables false
set_option maxRecDepth 100000
set_option linter.unnecessarySimpa false
set_option linter.unusedSimpArgs false
set_option linter.unnecessarySimpa false
set_option maxRecDepth 100000
theorem info75 : (Try.prog.info? 63).map (fun i => (i.zero, i.size, i.bytes)) = some (some (.pointer none), 1, 8) := by kernel_rfl
/-- where the parts of kids begin -/
theorem prL_cut {ks : List RX} {m : Nat} (h : m < ks.length) : prL ks = prL (ks.take m) ++ (prB (rat ks m) ++ prL (ks.drop (m + 1))) := by
  conv => lhs; rw [set_split h, prL_append, prL_cons]
theorem prL_take_succ {ks : List RX} {m : Nat} (h : m < ks.length) : prL (ks.take (m + 1)) = prL (ks.take m) ++ prB (rat ks m) := by
  have : ks.take (m + 1) = ks.take m ++ [rat ks m] := by
    rw [List.take_add_one, rat_get h]; rfl
  rw [this, prL_append, prL_cons, prL_nil, List.append_nil]
theorem key_first {p : Pr} {x : UInt8} {r : List UInt8} (h : key p = x :: r) : ∃ hp : 0 < p.1.size, p.1[0] = x := (str_ne h).2
theorem prB_first {k : RX} {x : UInt8} {s : List UInt8} (hl : k.lab = x :: s) {p : Pr} (h : p ∈ prB k) : ∃ r, key p = x :: r := by
  obtain ⟨y, hy⟩ := prB_key h
  exact ⟨s ++ y, by rw [hy, hl]; rfl⟩
/-- the bytes with which keys begin, around a part -/
theorem part_at {ks : List RX} {m j : Nat} (h : m < ks.length) (h1 : (prL (ks.take m)).length ≤ j) (h2 : j < (prL (ks.take (m + 1))).length) : pat (prL ks) j ∈ prB (rat ks m) := by
  rw [prL_take_succ h, List.length_append] at h2
  unfold pat
  rw [prL_cut h, List.getElem?_append_right h1, List.getElem?_append_left (by omega), List.getElem?_eq_getElem (by omega)]
  exact List.getElem_mem _
theorem part_end {ks : List RX} {m : Nat} (hkd : ∀ k ∈ ks, Can k ∧ Kd k) (hr : ks.Pairwise fun a b => fst? a < fst? b) (h : m < ks.length) {x : UInt8} {s : List UInt8} (hl : (rat ks m).lab = x :: s) (h2 : (prL (ks.take (m + 1))).length < (prL ks).length) : ∃ y r, key (pat (prL ks) (prL (ks.take (m + 1))).length) = y :: r ∧ y ≠ x := by
  have hm1 : m + 1 < ks.length := by
    rcases Nat.lt_or_ge (m + 1) ks.length with h3 | h3
    · exact h3
    · rw [List.take_of_length_le h3] at h2; omega
  have hmem : pat (prL ks) (prL (ks.take (m + 1))).length ∈ prB (rat ks (m + 1)) := part_at hm1 (Nat.le_refl _) (by
    rw [prL_take_succ hm1, List.length_append]
    have := prB_some (hkd _ (rat_mem hm1)).1 (hkd _ (rat_mem hm1)).2
    omega)
  cases hl2 : (rat ks (m + 1)).lab with
  | nil => exact absurd hl2 (hkd _ (rat_mem hm1)).2.1
  | cons y t =>
    obtain ⟨r, hr'⟩ := prB_first hl2 hmem
    refine ⟨y, r, hr', fun e => ?_⟩
    have := List.pairwise_iff_getElem.1 hr m (m + 1) h hm1 (by omega)
    have g1 := rat_get h
    have g2 := rat_get hm1
    rw [List.getElem?_eq_getElem h] at g1
    rw [List.getElem?_eq_getElem hm1] at g2
    rw [Option.some.inj g1, Option.some.inj g2, fst_cons hl, fst_cons hl2, e] at this
    omega
theorem cell_one_new (w : World) (t : TypeId) (v : Value) : ∀ (j : Nat) (u : Value), [v][j]? = some u → (w.alloc (.cells #[v] t)).cell? ((⟨w.heap.size, 0, none⟩ : Addr).add j) = some u := fun j u hu => by
  cases j with
  | succ j => simp at hu
  | zero =>
    simp at hu
    subst hu
    rw [addr_at]
    exact (Blk.new w t #[v]).cell 0
/-- what groups leaves -/
def GroupPost (ks : List RX) (w : World) (e : Ending) (w' : World) : Prop := ∃ v rs, e = .returned v ∧ OwnT w.heap.size w' v rs ∧ rs.length = ks.length ∧ (∀ (i c : Nat) (k : RX), rs[i]? = some c → ks[i]? = some k → RefW (fun x => w.heap.size ≤ x ∧ v.ownBlock ≠ some x) w' c k) ∧ Below w.heap.size w w'
set_option maxHeartbeats 4000000 in
theorem groups_any (ks : List RX) (hkd : ∀ k ∈ ks, Can k ∧ Kd k) (hr : ks.Pairwise fun a b => fst? a < fst? b) (hbr : ∀ k ∈ ks, BranchOK k) (A : Option Addr) (c : Nat) (w : World) (hR : Rd w A (prL ks)) (hc : (prL ks).length ≤ c) (hn : (prL ks).length ≤ 1000) (hz : ∀ p ∈ prL ks, p.1.size ≤ 1000) (hkl : ks.length ≤ 800) :
    Calls Try.prog 45 #[.slice A (prL ks).length c] w (GroupPost ks w) := by
  obtain ⟨i0, hi, hz0, hz1, hz2⟩ := info_parts info75
  obtain ⟨N, hN⟩ : ∃ N, N = (prL ks).length := ⟨_, rfl⟩
  rw [← hN] at hc hn ⊢
  have HN := Lib.hid hN
  have HR := Lib.hid hR
  have HZ := Lib.hid hz
  have HKD := Lib.hid hkd
  have HRS := Lib.hid hr
  have HBR := Lib.hid hbr
  obtain ⟨off, hoff⟩ : ∃ off : Nat → Nat, off = fun m => (prL (ks.take m)).length := ⟨_, rfl⟩
  have hle : ∀ m, off m ≤ N := fun m => by
    rw [hoff, hN]
    have := congrArg List.length (show prL ks = prL (ks.take m) ++ prL (ks.drop m) by rw [← prL_append, List.take_append_drop])
    rw [List.length_append] at this
    show (prL (ks.take m)).length ≤ _
    omega
  have hup : ∀ m, m < ks.length → off m < off (m + 1) := fun m hm => by
    rw [hoff]
    show (prL (ks.take m)).length < (prL (ks.take (m + 1))).length
    rw [prL_take_succ hm, List.length_append]
    have := prB_some (hkd _ (rat_mem hm)).1 (hkd _ (rat_mem hm)).2
    omega
  have hend : ∀ m, m ≤ ks.length → (off m < N ↔ m < ks.length) := fun m hm => by
    constructor
    · intro h
      rcases Nat.lt_or_eq_of_le hm with h1 | h1
      · exact h1
      · rw [hoff, h1] at h; simp only [List.take_length] at h; omega
    · intro h; have := hup m h; have := hle (m + 1); omega
  have HO := Lib.hid hoff
  have h00 : off 0 = 0 := by rw [hoff]; rfl
  clear hN hR hz hkd hr hbr hoff
  go_enter Try.func45, Try.ntmps45
  go_wp2_with fail
  go_loopw [3, 4] (fun vo vi wr => ∃ (m : Nat) (rs : List Nat), m ≤ ks.length ∧ vi = .int .i64 (off m) ∧ OwnT w.heap.size wr vo rs ∧ rs.length = m ∧ Hid (∀ (i c : Nat) (k : RX), rs[i]? = some c → ks[i]? = some k → RefW (fun x => w.heap.size ≤ x ∧ vo.ownBlock ≠ some x) wr c k) ∧ Below w.heap.size w wr) (fun vo vi wr => N - (intOf vi).toNat)
  case atStart => exact ⟨0, [], by omega, by rw [h00]; rfl, World.ownsRow_nil _ _ _ _, rfl, Lib.hid (fun i c k h => by simp at h), Below.refl _ _⟩
  case round =>
    obtain ⟨m, rs, hm, rfl, hO, hrs, hF, hB⟩ := hrel
    have HRL := Lib.hid hrs
    have hrsl0 : rs.length ≤ ks.length := by omega
    clear hrs
    by_cases hlt : m < ks.length
    · obtain ⟨k, hke⟩ : ∃ k, k = rat ks m := ⟨_, rfl⟩
      have hkm : k ∈ ks := by rw [hke]; exact rat_mem hlt
      obtain ⟨hkc, hkk⟩ := HKD.out k hkm
      obtain ⟨x, s, hl⟩ : ∃ x s, k.lab = x :: s := by
        cases hl : k.lab with
        | nil => exact absurd hl hkk.1
        | cons x s => exact ⟨x, s, rfl⟩
      obtain ⟨a, ha⟩ : ∃ a, a = off m := ⟨_, rfl⟩
      obtain ⟨z, hz'⟩ : ∃ z, z = off (m + 1) := ⟨_, rfl⟩
      have haz : a < z := by rw [ha, hz']; exact hup m hlt
      have hzN : z ≤ N := by rw [hz']; exact hle _
      have hin : ∀ j, a ≤ j → j < z → ∃ hp : 0 < (pat (prL ks) j).1.size, (pat (prL ks) j).1[0] = x := fun j h1 h2 => by
        have hp := part_at (ks := ks) (m := m) (j := j) hlt (by rw [ha, HO.out] at h1; exact h1) (by rw [hz', HO.out] at h2; exact h2)
        rw [← hke] at hp
        obtain ⟨r, hr⟩ := prB_first hl hp
        exact key_first hr
      have hout : z < N → ∃ (y : UInt8) (hp : 0 < (pat (prL ks) z).1.size), (pat (prL ks) z).1[0] = y ∧ y ≠ x := fun h => by
        obtain ⟨y, r, h1, h2⟩ := part_end HKD.out HRS.out hlt (by rw [← hke]; exact hl) (by rw [hz', HO.out, HN.out] at h; exact h)
        rw [hz', HO.out]
        obtain ⟨hp, hg⟩ := key_first h1
        exact ⟨y, hp, hg, h2⟩
      have hcut : ∀ (W : World) (g o : Nat), Rd W (some ⟨g, o, none⟩) (prL ks) → Rd W (some ⟨g, o + a * 2, none⟩) (prB k) := fun W g o hR => by
        have h1 := Rd.take (Rd.drop hR a) (z - a)
        have h2 : ((prL ks).drop a).take (z - a) = prB k := by
          have e := prL_take_succ hlt
          rw [← hke] at e
          have hzl : z = a + (prB k).length := by rw [hz', ha, HO.out]; show (prL (ks.take (m + 1))).length = _; rw [e, List.length_append]
          rw [prL_cut hlt, ← hke, show a = (prL (ks.take m)).length by rw [ha, HO.out], List.drop_left, hzl, show (prL (ks.take m)).length = a by rw [ha, HO.out], Nat.add_sub_cancel_left, List.take_left]
        rw [h2] at h1; exact h1
      have hlen : z - a = (prB k).length := by
        have e := prL_take_succ hlt
        rw [← hke] at e
        rw [hz', ha, HO.out]
        show (prL (ks.take (m + 1))).length - (prL (ks.take m)).length = _
        rw [e, List.length_append]; omega
      have hzs : ∀ p ∈ prB k, p.1.size ≤ 1000 := fun p hp => HZ.out p (by rw [prL_cut hlt, ← hke]; simp [hp])
      have H1 := Lib.hid hin
      have H2 := Lib.hid hout
      have H3 := Lib.hid hcut
      have H4 := Lib.hid hlen
      have H5 := Lib.hid hzs
      have HKE := Lib.hid hke
      have HA := Lib.hid ha
      have HZ' := Lib.hid hz'
      have HL := Lib.hid hl
      have HBK := Lib.hid (HBR.out k hkm)
      have Hle := Lib.hid hle
      have Hup := Lib.hid hup
      have Hend := Lib.hid hend
      have haN : (a : Int) < (N : Int) := by omega
      rw [← ha]
      clear hin hout hcut hlen hzs hke ha hz' hl hle hup hend h00
      go_wp2_with fail
      go_loopw [5] (fun vk wk => ∃ kk q : Nat, vk = .int .i64 kk ∧ a ≤ kk ∧ kk ≤ z ∧ wk = wr.drewN q) (fun vk wk => z - (intOf vk).toNat)
      case atStart => exact ⟨a, 0, rfl, Nat.le_refl _, by omega, rfl⟩
      case round =>
        obtain ⟨kk, q, rfl, h1, h2, rfl⟩ := hrel
        obtain ⟨g, o, rfl, c0, -⟩ := (Rd.drewN (HR.out.below hB) q).at a (by rw [← HN.out]; omega)
        obtain ⟨hpa, hga⟩ := H1.out a (Nat.le_refl _) haz
        have hpai : (0 : Int) < ((pat (prL ks) a).1.size : Int) := by omega
        by_cases hz2' : kk < z
        · obtain ⟨g', o', e', c1, -⟩ := (Rd.drewN (HR.out.below hB) q).at kk (by rw [← HN.out]; omega)
          simp at e'
          obtain ⟨rfl, rfl⟩ := e'
          obtain ⟨hpk, hgk⟩ := H1.out kk h1 hz2'
          have hpki : (0 : Int) < ((pat (prL ks) kk).1.size : Int) := by omega
          have F3 : (kk : Int) < (N : Int) := by omega
          have E3 : IntKind.i64.wrap ((kk : Int) + 1) = ((kk + 1 : Nat) : Int) := by rw [IntWalk.i64_in _ (by omega)]; omega
          have hdd : ∀ z, (wr.drewN q).drewN z = wr.drewN (q + z) := fun z => by simp [World.drewN, Nat.add_assoc]
          have HDD := Lib.hid hdd
          clear hdd
          generalize hW : wr.drewN q = W at *
          clear hW
          go_wp2_with fail
          go_quiet (fail)
          go_wp2_with fail
          exact ⟨⟨kk + 1, _, by go_num, by omega, by omega, HDD.out nq⟩, by simp [intOf]; omega⟩
        · obtain rfl : kk = z := by omega
          by_cases hzz : kk < N
          · obtain ⟨y, hpy, hgy, hyx⟩ := H2.out hzz
            obtain ⟨g', o', e', c1, -⟩ := (Rd.drewN (HR.out.below hB) q).at kk (by rw [← HN.out]; omega)
            simp at e'
            obtain ⟨rfl, rfl⟩ := e'
            have hpyi : (0 : Int) < ((pat (prL ks) kk).1.size : Int) := by omega
            have F3 : (kk : Int) < (N : Int) := by omega
            have hbn : ¬ ((y.toNat : Int) = (x.toNat : Int)) := fun e => hyx (UInt8.toNat_inj.1 (by omega))
            have hRw : Rd (wr.drewN q) (some ⟨g, o, none⟩) (prL ks) := Rd.drewN (HR.out.below hB) q
            have hBq : Below w.heap.size w (wr.drewN q) := hB.trans ((below_drewN wr q).mono hB.size)
            have hBK := fun W (hW : Below (wr.drewN q).heap.size (wr.drewN q) W) => HBK.out g (o + a * 2) (c - a) W (H3.out W g o (hRw.below hW)) (by rw [← H4.out]; omega) (by rw [← H4.out]; omega) H5.out
            rw [← H4.out] at hBK
            have hOq : OwnT w.heap.size (wr.drewN q) u3 rs := hO
            obtain ⟨A3, c3, rfl⟩ := hO.form
            have hFq : Hid (∀ (i c : Nat) (k : RX), rs[i]? = some c → ks[i]? = some k → RefW (fun x => w.heap.size ≤ x ∧ (Value.slice A3 rs.length c3).ownBlock ≠ some x) (wr.drewN q) c k) := Lib.hid fun i c k h1 h2 => (hF.out i c k h1 h2).stay (below_drewN wr q)
            have hca : ¬ (c = a) := by omega
            have hrsl : rs.length ≤ 800 := by omega
            clear hO hF hB hRw
            generalize hW : wr.drewN q = W at *
            clear hW
            go_wp2_with fail
            go_quiet (fail)
            go_wp2_with fail
            refine (hBK _ ((below_drewN W nq))).mono ?_
            rintro e w4 ⟨b, rfl, hT, hB4⟩
            have hB5 : Below w4.heap.size w4 (w4.alloc (.cells #[.pointer (some ⟨b, 0, none⟩)] 63)) := (Below.refl _ w4).alloc (Nat.le_refl _) _
            have hBx : Below w.heap.size w w4 := hBq.trans (((below_drewN W nq).trans (hB4.mono ((below_drewN W nq)).size)).mono hBq.size)
            have hBy := hBx.trans (hB5.mono hBx.size)
            have hrow := ((hOq.stay ((below_drewN W nq))).stay hB4).stay hB5
            have hF5 : Hid (∀ (i c : Nat) (k : RX), rs[i]? = some c → ks[i]? = some k → RefW (fun x => (w.heap.size ≤ x ∧ (Value.slice A3 rs.length c3).ownBlock ≠ some x) ∧ x < (w4.alloc (.cells #[.pointer (some ⟨b, 0, none⟩)] 63)).heap.size) (w4.alloc (.cells #[.pointer (some ⟨b, 0, none⟩)] 63)) c k) := Lib.hid fun i c k h1 h2 => ((((hFq.out i c k h1 h2).stay ((below_drewN W nq))).stay hB4).stay hB5).mono fun x hx hl => ⟨hx, hl⟩
            have hrl := fun y hy => OwnT.lt (hOq.stay ((below_drewN W nq))) (g := y) hy
            have hT5 := (hT.stay hB5).mono (R := fun x => (w.heap.size ≤ x ∧ (Value.slice A3 rs.length c3).ownBlock ≠ some x) ∧ x < (w4.alloc (.cells #[.pointer (some ⟨b, 0, none⟩)] 63)).heap.size) fun x hx hl => ⟨⟨Nat.le_trans (hBq.size) (Nat.le_trans ((below_drewN W nq)).size hx), fun e => by have := hrl x e; omega⟩, hl⟩
            have hcl := cell_one_new w4 63 (.pointer (some ⟨b, 0, none⟩))
            unfold OwnT at hrow
            have hsz5 : w.heap.size ≤ (w4.alloc (.cells #[.pointer (some ⟨b, 0, none⟩)] 63)).heap.size := hBy.size
            clear hOq hFq hT hB4 hBq hBK hBx hrl
            unfold at0
            go_wp2_with (at_builtin; refine wpList_append_own_at _ rfl _ _ 82 rfl w.heap.size 63 i0 _ 1 8 Try.underlying82 hi hz0 hz1 hz2 zsz_kids (by decide) (.slice A3 rs.length c3) rs.length (kcs rs) rfl hrow ⟨w4.heap.size, 0, none⟩ 1 1 [.pointer (some ⟨b, 0, none⟩)] rfl rfl hcl (by simp [Value.oneCell']) (by unfold maxLen; omega) (by omega) hsz5 ?_; intro v' wa hown' hgrow hnil hat)
            have hBa : Below w.heap.size w wa := hBy.grown hgrow hsz5 (own_ge hrow)
            have hgr : Keep (Value.slice A3 rs.length c3).ownBlock.toList (w4.alloc (.cells #[.pointer (some ⟨b, 0, none⟩)] 63)) wa := ⟨⟨hgrow.os, hgrow.tape, hgrow.output, hgrow.size, fun i hi => by omega⟩, fun i hi hx => hgrow.block i hi (fun e => hx (by rw [← e]; simp))⟩
            have hfin : ∀ (c' : Nat) (k' : RX), RefW (fun x => (w.heap.size ≤ x ∧ (Value.slice A3 rs.length c3).ownBlock ≠ some x) ∧ x < (w4.alloc (.cells #[.pointer (some ⟨b, 0, none⟩)] 63)).heap.size) (w4.alloc (.cells #[.pointer (some ⟨b, 0, none⟩)] 63)) c' k' → RefW (fun x => w.heap.size ≤ x ∧ v'.ownBlock ≠ some x) wa c' k' := fun c' k' h =>
              (h.keep hgr (fun x hx hm => hx.1.2 (by simpa using hm))).mono fun x hx _ => ⟨hx.1.1, fun e => by
                rcases hat with h | h
                · rw [h] at e; exact hx.1.2 e
                · rw [h] at e; have := Option.some.inj e; omega⟩
            refine ⟨⟨m + 1, rs ++ [b], by omega, by rw [HZ'.out], ?_, by rw [List.length_append, HRL.out]; rfl, Lib.hid ?_, hBa⟩, ?_⟩
            · unfold OwnT
              rw [List.length_append]
              show World.ownsRow wa w.heap.size 63 1 v' (rs.length + 1) (kcs (rs ++ [b]))
              rw [show kcs (rs ++ [b]) = kcs rs ++ [.pointer (some ⟨b, 0, none⟩)] by simp [kcs, at0]]
              exact hown'
            · intro i c' k' h1 h2
              have hrs := HRL.out
              rcases Nat.lt_trichotomy i m with h | h | h
              · rw [List.getElem?_append_left (by omega)] at h1
                exact hfin c' k' (hF5.out i c' k' h1 h2)
              · rw [h, List.getElem?_append_right (by omega), show m - rs.length = 0 by omega] at h1
                simp at h1
                subst h1
                rw [h, rat_get hlt, ← HKE.out] at h2
                cases h2
                exact hfin _ _ hT5
              · rw [List.getElem?_eq_none (by simp; omega)] at h1; cases h1
            · have := HZ'.out; simp [intOf]; omega
          · have F3 : ¬ ((kk : Int) < (N : Int)) := by omega
            have c1 := True.intro
            have hRw : Rd (wr.drewN q) (some ⟨g, o, none⟩) (prL ks) := Rd.drewN (HR.out.below hB) q
            have hBq : Below w.heap.size w (wr.drewN q) := hB.trans ((below_drewN wr q).mono hB.size)
            have hBK := fun W (hW : Below (wr.drewN q).heap.size (wr.drewN q) W) => HBK.out g (o + a * 2) (c - a) W (H3.out W g o (hRw.below hW)) (by rw [← H4.out]; omega) (by rw [← H4.out]; omega) H5.out
            rw [← H4.out] at hBK
            have hOq : OwnT w.heap.size (wr.drewN q) u3 rs := hO
            obtain ⟨A3, c3, rfl⟩ := hO.form
            have hFq : Hid (∀ (i c : Nat) (k : RX), rs[i]? = some c → ks[i]? = some k → RefW (fun x => w.heap.size ≤ x ∧ (Value.slice A3 rs.length c3).ownBlock ≠ some x) (wr.drewN q) c k) := Lib.hid fun i c k h1 h2 => (hF.out i c k h1 h2).stay (below_drewN wr q)
            have hca : ¬ (c = a) := by omega
            have hrsl : rs.length ≤ 800 := by omega
            clear hO hF hB hRw
            generalize hW : wr.drewN q = W at *
            clear hW
            go_wp2_with fail
            go_quiet (fail)
            go_wp2_with fail
            refine (hBK _ ((below_drewN W nq))).mono ?_
            rintro e w4 ⟨b, rfl, hT, hB4⟩
            have hB5 : Below w4.heap.size w4 (w4.alloc (.cells #[.pointer (some ⟨b, 0, none⟩)] 63)) := (Below.refl _ w4).alloc (Nat.le_refl _) _
            have hBx : Below w.heap.size w w4 := hBq.trans (((below_drewN W nq).trans (hB4.mono ((below_drewN W nq)).size)).mono hBq.size)
            have hBy := hBx.trans (hB5.mono hBx.size)
            have hrow := ((hOq.stay ((below_drewN W nq))).stay hB4).stay hB5
            have hF5 : Hid (∀ (i c : Nat) (k : RX), rs[i]? = some c → ks[i]? = some k → RefW (fun x => (w.heap.size ≤ x ∧ (Value.slice A3 rs.length c3).ownBlock ≠ some x) ∧ x < (w4.alloc (.cells #[.pointer (some ⟨b, 0, none⟩)] 63)).heap.size) (w4.alloc (.cells #[.pointer (some ⟨b, 0, none⟩)] 63)) c k) := Lib.hid fun i c k h1 h2 => ((((hFq.out i c k h1 h2).stay ((below_drewN W nq))).stay hB4).stay hB5).mono fun x hx hl => ⟨hx, hl⟩
            have hrl := fun y hy => OwnT.lt (hOq.stay ((below_drewN W nq))) (g := y) hy
            have hT5 := (hT.stay hB5).mono (R := fun x => (w.heap.size ≤ x ∧ (Value.slice A3 rs.length c3).ownBlock ≠ some x) ∧ x < (w4.alloc (.cells #[.pointer (some ⟨b, 0, none⟩)] 63)).heap.size) fun x hx hl => ⟨⟨Nat.le_trans (hBq.size) (Nat.le_trans ((below_drewN W nq)).size hx), fun e => by have := hrl x e; omega⟩, hl⟩
            have hcl := cell_one_new w4 63 (.pointer (some ⟨b, 0, none⟩))
            unfold OwnT at hrow
            have hsz5 : w.heap.size ≤ (w4.alloc (.cells #[.pointer (some ⟨b, 0, none⟩)] 63)).heap.size := hBy.size
            clear hOq hFq hT hB4 hBq hBK hBx hrl
            unfold at0
            go_wp2_with (at_builtin; refine wpList_append_own_at _ rfl _ _ 82 rfl w.heap.size 63 i0 _ 1 8 Try.underlying82 hi hz0 hz1 hz2 zsz_kids (by decide) (.slice A3 rs.length c3) rs.length (kcs rs) rfl hrow ⟨w4.heap.size, 0, none⟩ 1 1 [.pointer (some ⟨b, 0, none⟩)] rfl rfl hcl (by simp [Value.oneCell']) (by unfold maxLen; omega) (by omega) hsz5 ?_; intro v' wa hown' hgrow hnil hat)
            have hBa : Below w.heap.size w wa := hBy.grown hgrow hsz5 (own_ge hrow)
            have hgr : Keep (Value.slice A3 rs.length c3).ownBlock.toList (w4.alloc (.cells #[.pointer (some ⟨b, 0, none⟩)] 63)) wa := ⟨⟨hgrow.os, hgrow.tape, hgrow.output, hgrow.size, fun i hi => by omega⟩, fun i hi hx => hgrow.block i hi (fun e => hx (by rw [← e]; simp))⟩
            have hfin : ∀ (c' : Nat) (k' : RX), RefW (fun x => (w.heap.size ≤ x ∧ (Value.slice A3 rs.length c3).ownBlock ≠ some x) ∧ x < (w4.alloc (.cells #[.pointer (some ⟨b, 0, none⟩)] 63)).heap.size) (w4.alloc (.cells #[.pointer (some ⟨b, 0, none⟩)] 63)) c' k' → RefW (fun x => w.heap.size ≤ x ∧ v'.ownBlock ≠ some x) wa c' k' := fun c' k' h =>
              (h.keep hgr (fun x hx hm => hx.1.2 (by simpa using hm))).mono fun x hx _ => ⟨hx.1.1, fun e => by
                rcases hat with h | h
                · rw [h] at e; exact hx.1.2 e
                · rw [h] at e; have := Option.some.inj e; omega⟩
            refine ⟨⟨m + 1, rs ++ [b], by omega, by rw [HZ'.out], ?_, by rw [List.length_append, HRL.out]; rfl, Lib.hid ?_, hBa⟩, ?_⟩
            · unfold OwnT
              rw [List.length_append]
              show World.ownsRow wa w.heap.size 63 1 v' (rs.length + 1) (kcs (rs ++ [b]))
              rw [show kcs (rs ++ [b]) = kcs rs ++ [.pointer (some ⟨b, 0, none⟩)] by simp [kcs, at0]]
              exact hown'
            · intro i c' k' h1 h2
              have hrs := HRL.out
              rcases Nat.lt_trichotomy i m with h | h | h
              · rw [List.getElem?_append_left (by omega)] at h1
                exact hfin c' k' (hF5.out i c' k' h1 h2)
              · rw [h, List.getElem?_append_right (by omega), show m - rs.length = 0 by omega] at h1
                simp at h1
                subst h1
                rw [h, rat_get hlt, ← HKE.out] at h2
                cases h2
                exact hfin _ _ hT5
              · rw [List.getElem?_eq_none (by simp; omega)] at h1; cases h1
            · have := HZ'.out; simp [intOf]; omega
    · have hmk := Lib.hid (show m = ks.length by omega)
      have hN' : ¬ ((off m : Int) < (N : Int)) := by
        have : ¬ off m < N := fun h => hlt ((hend m hm).1 h)
        omega
      obtain ⟨A3, c3, rfl⟩ := hO.form
      clear hle hup hend
      go_wp2_with fail
      go_ret
      exact ⟨_, rs, rfl, hO, by rw [HRL.out]; exact hmk.out, hF.out, hB⟩
end Go.Proofs.Ytchimfgbdfmegab
/- The reference's branch. -/
namespace Go.Proofs.Ytchimfgbdfmegab
open Go.RowKit Go.Lib
set_option linter.unusedVariables false
set_option maxRecDepth 100000
set_option linter.unnecessarySimpa false
set_option linter.unusedSimpArgs false
set_option linter.unnecessarySimpa false
set_option maxRecDepth 100000
section
variable {k : RX}
/-- how many values a node itself has -/
def dV (k : RX) : Nat := (vals k.val).length
theorem prB_split (k : RX) : prB k = (vals k.val).map (fun x => toPr (k.lab ++ x.1, x.2)) ++ (bodyL k.kids).map (fun x => toPr (k.lab ++ x.1, x.2)) := by
  unfold prB
  rw [List.map_map]
  have : body k = vals k.val ++ bodyL k.kids := by
    conv => lhs; rw [RX.eta k]
    rw [body_node]
  rw [this, List.map_append]; rfl
theorem prB_len (k : RX) : (prB k).length = dV k + (prL k.kids).length := by
  rw [prB_split, List.length_append, List.length_map, List.length_map]
  unfold dV prL
  rw [List.length_map]
theorem toPr_cut (l y : List UInt8) (v : ByteArray) : ((toPr (l ++ y, v)).1.extract l.length (toPr (l ++ y, v)).1.size) = (toPr (y, v)).1 := bytes_ext (by
  rw [ext_from]
  simp [toPr])
theorem toPr_size (l : List UInt8) (v : ByteArray) : (toPr (l, v)).1.size = l.length := by rw [← size_of]; simp [toPr]
theorem kids_key (hc : Can k) {x : Ent} (hx : x ∈ bodyL k.kids) : x.1 ≠ [] := fun e => by
  obtain ⟨u, hu, y, -, h⟩ := bodyL_mem.1 hx
  rw [e] at h
  exact (hc.kd u hu).1 (List.append_eq_nil_iff.1 h.symm).1
/-- the pair that is the node's own -/
theorem prB_own {w : ByteArray} (hv : k.val = some w) : dV k = 1 ∧ (pat (prB k) 0).1.data.toList = k.lab ∧ (pat (prB k) 0).2 = w := by
  have h : prB k = toPr (k.lab ++ [], w) :: (bodyL k.kids).map (fun x => toPr (k.lab ++ x.1, x.2)) := by rw [prB_split, hv]; rfl
  refine ⟨by unfold dV; rw [hv]; rfl, ?_, ?_⟩
  · unfold pat; rw [h]; simp [toPr]
  · unfold pat; rw [h]; rfl
/-- .. and those of its kids -/
theorem prB_kid (hc : Can k) {j : Nat} (h1 : dV k ≤ j) (h2 : j < (prB k).length) : (pat (prB k) j).1.size ≠ k.lab.length ∧ (pat (prB k) j).1.extract k.lab.length (pat (prB k) j).1.size = (pat (prL k.kids) (j - dV k)).1 ∧ (pat (prB k) j).2 = (pat (prL k.kids) (j - dV k)).2 ∧ j - dV k < (prL k.kids).length := by
  have hl := prB_len k
  have hj : j - dV k < (bodyL k.kids).length := by
    have : (prL k.kids).length = (bodyL k.kids).length := by unfold prL; rw [List.length_map]
    omega
  have e1 : pat (prB k) j = toPr (k.lab ++ (bodyL k.kids)[j - dV k].1, (bodyL k.kids)[j - dV k].2) := by
    unfold pat
    rw [prB_split, List.getElem?_append_right (by rw [List.length_map]; exact h1), List.length_map, List.getElem?_map, show (vals k.val).length = dV k from rfl, List.getElem?_eq_getElem hj]
    rfl
  have e2 : pat (prL k.kids) (j - dV k) = toPr (bodyL k.kids)[j - dV k] := by
    unfold pat prL
    rw [List.getElem?_map, List.getElem?_eq_getElem hj]
    rfl
  have hne := kids_key hc (List.getElem_mem hj)
  rw [e1, e2]
  refine ⟨?_, toPr_cut _ _ _, rfl, by unfold prL; rw [List.length_map]; exact hj⟩
  rw [toPr_size, List.length_append]
  have : 0 < ((bodyL k.kids)[j - dV k].1).length := List.length_pos_iff.2 hne
  omega
theorem prB_pre {j : Nat} (h : j < (prB k).length) : k.lab <+: (pat (prB k) j).1.data.toList := by
  have hm : pat (prB k) j ∈ prB k := by unfold pat; rw [List.getElem?_eq_getElem h]; exact List.getElem_mem h
  obtain ⟨y, hy⟩ := prB_key hm
  exact ⟨y, hy.symm⟩
theorem cmn_pre (l a b : List UInt8) (ha : l <+: a) (hb : l <+: b) : l.length ≤ Tw.cmn a b := by
  obtain ⟨x, rfl⟩ := ha
  obtain ⟨y, rfl⟩ := hb
  rw [Tw.cmn_at (l ++ x) (l ++ y) l.length (by simp) (by simp) (by simp)]
  omega
/-- the label is what all have in common -/
theorem common_is (hc : Can k) (hd : Kd k) {n : Nat} (h1 : k.lab.length ≤ n) (h2 : n ≤ (pat (prB k) 0).1.size) (h3 : ∀ i, i < (prB k).length → n ≤ Tw.cm (pat (prB k) 0).1 (pat (prB k) i).1) : n = k.lab.length := by
  cases hv : k.val with
  | some w =>
    obtain ⟨-, h, -⟩ := prB_own hv
    rw [← size_of, h] at h2; omega
  | none =>
    have hpos := prB_some hc hd
    have hb : prB k = (body k).map (fun x => toPr (k.lab ++ x.1, x.2)) := by unfold prB; rw [List.map_map]; rfl
    have hbl : 0 < (body k).length := by rw [hb, List.length_map] at hpos; exact hpos
    have e0 : pat (prB k) 0 = toPr (k.lab ++ ((body k)[0]'hbl).1, ((body k)[0]'hbl).2) := by unfold pat; rw [hb, List.getElem?_map, List.getElem?_eq_getElem hbl]; rfl
    have hx0 : ((body k)[0]'hbl).1 ≠ [] := fun e => by
      have hm : (([] : List UInt8), ((body k)[0]'hbl).2) ∈ body k := by rw [← e]; exact List.getElem_mem hbl
      rw [body_nil hc, hv] at hm; cases hm
    obtain ⟨b, r, hbr⟩ := List.exists_cons_of_ne_nil hx0
    obtain ⟨x, hx, hne⟩ := Kd.forks hc hd b
    obtain ⟨i, hi, hxi⟩ := List.mem_iff_getElem.1 hx
    have ei : pat (prB k) i = toPr (k.lab ++ x.1, x.2) := by unfold pat; rw [hb, List.getElem?_map, List.getElem?_eq_getElem hi, hxi]; rfl
    have h4 := h3 i (by rw [hb, List.length_map]; exact hi)
    unfold Tw.cm at h4
    rw [e0, ei, toPr_key, toPr_key] at h4
    simp only at h4
    rw [hbr, Tw.cmn_at _ _ k.lab.length (by simp) (by simp) (by simp)] at h4
    simp only [List.drop_left] at h4
    have : Tw.cmn (b :: r) x.1 = 0 := by
      cases hx1 : x.1 with
      | nil => rfl
      | cons c t =>
        have : b ≠ c := fun e => hne t (by rw [hx1, e])
        simp [Tw.cmn, this]
    omega
end
theorem keepG {w w' : World} {X : Nat} {row : Option Nat} {x y : Value} (hg : w.grownBy w' row) (hne : row ≠ some X) (h : w.cell? ⟨X, 0, none⟩ = some x ∧ w.cell? ⟨X, 1, none⟩ = some y) : w'.cell? ⟨X, 0, none⟩ = some x ∧ w'.cell? ⟨X, 1, none⟩ = some y := by
  have e : w'.heap[X]? = w.heap[X]? := hg.block X (World.block_lt_of_cell? w _ h.1) (fun e => hne e.symm)
  simp only [World.cell?, e] at h ⊢
  exact h
/-- what a node has of its own, behind j pairs -/
def ownV (k : RX) (j : Nat) : Option ByteArray := if dV k ≤ j then k.val else none
theorem ownV_zero {k : RX} : ownV k 0 = none := by
  unfold ownV dV
  cases hv : k.val with
  | none => simp
  | some w => simp [vals]
theorem ownV_one {k : RX} {w : ByteArray} (h : k.val = some w) (hd : dV k = 1) : ownV k 1 = some w := by unfold ownV; rw [hd, h]; rfl
theorem ownV_same {k : RX} {j : Nat} (h : dV k ≤ j) : ownV k (j + 1) = ownV k j := by unfold ownV; rw [if_pos h, if_pos (by omega)]
theorem OwnR.two {base : Nat} {w : World} {v : Value} {R : List Pr} (h : OwnR base w v R) : ∃ A c, v = .slice A R.length c ∧ R.length ≤ c := by
  rcases h.2 with ⟨e, h0⟩ | ⟨g, cap, cur, e, _, _, hc, _⟩
  · exact ⟨none, 0, by rw [e, h0], by omega⟩
  · exact ⟨_, cap, e, hc⟩
theorem OwnR.rd2 {base : Nat} {w : World} {v : Value} {R : List Pr} {A : Option Addr} {c : Nat} (h : OwnR base w v R) (e : v = .slice A R.length c) : Rd w A R := by
  obtain ⟨A', c', e', hr⟩ := h.rd
  rw [e] at e'
  simp only [Value.slice.injEq, true_and] at e'
  rw [e'.1]; exact hr
theorem four {w : World} {g : Nat} {t : TypeId} {a b c d : Value} (h : Blk w g t #[a, b, c, d]) :
    (w.cell? ⟨g, 0, none⟩ = some a ∧ w.cell? ⟨g, 1, none⟩ = some b ∧ w.cell? ⟨g, 2, none⟩ = some c ∧ w.cell? ⟨g, 3, none⟩ = some d) ∧
    (w.frozen? ⟨g, 0, none⟩ = false ∧ w.frozen? ⟨g, 1, none⟩ = false ∧ w.frozen? ⟨g, 2, none⟩ = false ∧ w.frozen? ⟨g, 3, none⟩ = false) :=
  ⟨⟨h.cell 0, h.cell 1, h.cell 2, h.cell 3⟩, h.frozen 0, h.frozen 1, h.frozen 2, h.frozen 3⟩
theorem keep2s {w : World} {b X i : Nat} {x y : Value} (h : w.cell? ⟨X, 0, none⟩ = some x ∧ w.cell? ⟨X, 1, none⟩ = some y) (hne : X ≠ b) (v : Value) : (w.setCell ⟨b, i, none⟩ v).cell? ⟨X, 0, none⟩ = some x ∧ (w.setCell ⟨b, i, none⟩ v).cell? ⟨X, 1, none⟩ = some y := by
  have e : (w.setCell ⟨b, i, none⟩ v).heap[X]? = w.heap[X]? := Below.heap_setCell w ⟨b, i, none⟩ v X hne
  simp only [World.cell?, e] at h ⊢
  exact h
set_option maxHeartbeats 4000000 in
theorem branch_any (k : RX) (hc : Can k) (hd : Kd k) (hkids : ∀ u ∈ k.kids, BranchOK u) : BranchOK k := by
  intro g off c w hR hcl hn hz
  obtain ⟨i0, hi, hz0, hz1, hz2⟩ := info_parts info40
  obtain ⟨N, hN⟩ : ∃ N, N = (prB k).length := ⟨_, rfl⟩
  have hNp : 0 < N := by rw [hN]; exact prB_some hc hd
  rw [← hN] at hcl hn ⊢
  have HN := Lib.hid hN
  have HR := Lib.hid hR
  have HZ := Lib.hid hz
  have HC := Lib.hid hc
  have HD := Lib.hid hd
  have HK := Lib.hid hkids
  have hzz : ∀ j, j < N → (pat (prB k) j).1.size ≤ 1000 := fun j hj => by
    rw [hN] at hj
    exact hz _ (by unfold pat; rw [List.getElem?_eq_getElem hj]; exact List.getElem_mem hj)
  have HZZ := Lib.hid hzz
  have hll : k.lab.length ≤ (pat (prB k) 0).1.size := by
    rw [← size_of]; exact (prB_pre (k := k) (j := 0) (by rw [← hN]; exact hNp)).length_le
  have HLL := Lib.hid hll
  have hz0' := hzz 0 hNp
  obtain ⟨g', o', e', p0, -⟩ := hR.at 0 (by rw [← hN]; exact hNp)
  simp at e'
  obtain ⟨rfl, rfl⟩ := e'
  simp only [Nat.zero_mul, Nat.add_zero] at p0
  have hN0 : (0 : Int) < (N : Int) := by omega
  have hgl := World.block_lt_of_cell? _ _ p0
  clear hN hR hz hc hd hkids hzz hll
  obtain ⟨K0, hK0⟩ : ∃ K0, K0 = (pat (prB k) 0).1 := ⟨_, rfl⟩
  rw [← hK0] at p0 hz0'
  have HK0 := Lib.hid hK0
  clear hK0
  go_enter Try.func59, Try.ntmps59
  go_wp2_with fail
  go_loopw [3, 18] (fun vn vi wr => ∃ (j n : Nat), j ≤ N ∧ vi = .int .i64 j ∧ vn = .int .i64 n ∧ Hid (k.lab.length ≤ n ∧ n ≤ K0.size ∧ ∀ i, i < j → n ≤ Tw.cm K0 (pat (prB k) i).1) ∧ Below w.heap.size w wr) (fun vn vi wr => N - (intOf vi).toNat)
  case atStart => exact ⟨0, K0.size, by omega, rfl, rfl, Lib.hid ⟨by rw [HK0.out]; exact HLL.out, Nat.le_refl _, fun i hi => by omega⟩, Below.refl _ _⟩
  case round =>
    obtain ⟨j, n, hj, rfl, rfl, hI, hB⟩ := hrel
    have hnz : n ≤ 1000 := by have := hI.out.2.1; omega
    by_cases hlt : j < N
    · obtain ⟨g1, o1, e1, c0, c1⟩ := (HR.out.below hB).at j (by rw [← HN.out]; exact hlt)
      simp at e1
      obtain ⟨rfl, rfl⟩ := e1
      have hjN : (j : Int) < (N : Int) := by omega
      have E3 : IntKind.i64.wrap ((j : Int) + 1) = ((j + 1 : Nat) : Int) := by rw [IntWalk.i64_in _ (by omega)]; omega
      have p0' := (hB.cell hgl).trans p0
      have hKz := HZZ.out j hlt
      generalize hKj : (pat (prB k) j).1 = Kj at *
      generalize (pat (prB k) j).2 = Vj at *
      have HKJ := Lib.hid hKj
      have hb2 : Below w.heap.size w (wr.alloc (.cells #[.string Kj, .string Vj] 33)) := hB.alloc hB.size _
      have hbx := Blk.new wr 33 #[.string Kj, .string Vj]
      have q0 : (wr.alloc (.cells #[.string Kj, .string Vj] 33)).cell? ⟨wr.heap.size, 0, none⟩ = some (.string Kj) := hbx.cell 0
      have p2 : (wr.alloc (.cells #[.string Kj, .string Vj] 33)).cell? ⟨g, off, none⟩ = some (.string K0) := (hb2.cell hgl).trans p0
      have hcm := fun W => Tw.refCommon_any K0 Kj W (by unfold maxLen; omega) (by unfold maxLen; omega)
      obtain ⟨Xb, hXb⟩ : ∃ Xb, Xb = wr.heap.size := ⟨_, rfl⟩
      have HXB := Lib.hid hXb
      rw [← hXb] at q0
      clear hKj hB hbx p0' hXb
      go_upto_region 5 with (fail)
      rw [← HXB.out]
      generalize hWX : wr.alloc (.cells #[.string Kj, .string Vj] 33) = WX at *
      clear hWX c0 c1
      generalize hcm' : Tw.cm K0 Kj = C at *
      have HCM := Lib.hid hcm'
      have hCz : C ≤ 1000 := by have := (Tw.cm_le K0 Kj).1; rw [hcm'] at this; omega
      clear hcm'
      have hpre : k.lab.length ≤ C := by
        rw [← HCM.out, ← HKJ.out, HK0.out]
        exact cmn_pre _ _ _ (prB_pre (by rw [← HN.out]; exact hNp)) (prB_pre (by rw [← HN.out]; exact hlt))
      have hall : ∀ n', n' ≤ n → n' ≤ C → ∀ i, i < j + 1 → n' ≤ Tw.cm K0 (pat (prB k) i).1 := fun n' h1 h2 i hi => by
        rcases Nat.lt_or_ge i j with h | h
        · exact Nat.le_trans h1 (hI.out.2.2 i h)
        · have : i = j := by omega
          subst this
          rw [HKJ.out, HCM.out]; exact h2
      have HALL := Lib.hid hall
      have HPRE := Lib.hid hpre
      clear hall hpre
      by_cases hlc : C < n
      · have L1 : (C : Int) < (n : Int) := by omega
        go_wp2_with fail
        go_quiet ((go_at_call 67; exact Calls.quiet_of (hcm _)))
        go_wp2_with fail
        exact ⟨⟨j + 1, C, by omega, by go_num, rfl, Lib.hid ⟨HPRE.out, by have := hI.out.2.1; omega, HALL.out C (by omega) (Nat.le_refl _)⟩, hb2.trans ((below_drewN WX nq).mono hb2.size)⟩, by simp [intOf]; omega⟩
      · have L1 : ¬ ((C : Int) < (n : Int)) := by omega
        go_wp2_with fail
        go_quiet ((go_at_call 67; exact Calls.quiet_of (hcm _)))
        go_wp2_with fail
        exact ⟨⟨j + 1, n, by omega, by go_num, rfl, Lib.hid ⟨hI.out.1, hI.out.2.1, HALL.out n (Nat.le_refl _) (by omega)⟩, hb2.trans ((below_drewN WX nq).mono hb2.size)⟩, by simp [intOf]; omega⟩
    · have hjN : ¬ ((j : Int) < (N : Int)) := by omega
      have hnl : n = k.lab.length := common_is HC.out HD.out hI.out.1 (by rw [← HK0.out]; exact hI.out.2.1) (fun i hi => by rw [← HK0.out]; exact hI.out.2.2 i (by rw [← HN.out] at hi; omega))
      have p0' := (hB.cell hgl).trans p0
      have hnK : (n : Int) ≤ (K0.size : Int) := by have := hI.out.2.1; omega
      have hbT := Blk.new wr 84 #[.string (K0.extract 0 n), .bool false, .string ⟨#[]⟩, .slice none 0 0]
      have hb2 : Below w.heap.size w (wr.alloc (.cells #[.string (K0.extract 0 n), .bool false, .string ⟨#[]⟩, .slice none 0 0] 84)) := hB.alloc hB.size _
      have hwT : w.heap.size ≤ wr.heap.size := hB.size
      obtain ⟨T, hTe⟩ : ∃ T, T = wr.heap.size := ⟨_, rfl⟩
      rw [← hTe] at hbT hwT
      have HT := Lib.hid hTe
      have HNL := Lib.hid hnl
      have hK0n : (K0.extract 0 n).data.toList = k.lab := by
        rw [ext_to, hnl, HK0.out]
        obtain ⟨y, hy⟩ := prB_pre (k := k) (j := 0) (by rw [← HN.out]; exact hNp)
        rw [← hy, List.take_left]
      have HKN := Lib.hid hK0n
      clear hTe hnl hK0n
      go_wp2_with fail
      rw [← HT.out]
      generalize hWT : wr.alloc (.cells #[.string (K0.extract 0 n), .bool false, .string ⟨#[]⟩, .slice none 0 0] 84) = WT at *
      generalize K0.extract 0 n = LB at *
      clear hWT
      go_loopw [8, 44] (fun vr vi w2 => ∃ (j : Nat) (R : List Pr), j ≤ N ∧ vi = .int .i64 j ∧ Hid (R = (prL k.kids).take (j - dV k)) ∧ OwnR w.heap.size w2 vr R ∧ Blk w2 T 84 #[.string LB, .bool (ownV k j).isSome, .string ((ownV k j).getD ⟨#[]⟩), .slice none 0 0] ∧ Below w.heap.size w w2) (fun vr vi w2 => N - (intOf vi).toNat)
      case atStart => exact ⟨0, [], by omega, rfl, Lib.hid (by simp), World.ownsRow_nil _ _ _ _, by rw [ownV_zero]; exact hbT, hb2⟩
      case round =>
        obtain ⟨j, R, hj, rfl, hRR, hO, hbT2, hB2⟩ := hrel
        clear hbT hb2 hI hB p0'
        have hRl : R.length ≤ 1000 := by
          rw [hRR.out]
          have h := prB_len k
          rw [← HN.out] at h
          simp only [List.length_take]; omega
        by_cases hlt : j < N
        · obtain ⟨g1, o1, e1, c0, c1⟩ := (HR.out.below hB2).at j (by rw [← HN.out]; exact hlt)
          simp at e1
          obtain ⟨rfl, rfl⟩ := e1
          have hjN' : (j : Int) < (N : Int) := by omega
          have E3 : IntKind.i64.wrap ((j : Int) + 1) = ((j + 1 : Nat) : Int) := by rw [IntWalk.i64_in _ (by omega)]; omega
          have hKz := HZZ.out j hlt
          generalize hKj : (pat (prB k) j).1 = Kj at *
          generalize hVj : (pat (prB k) j).2 = Vj at *
          have HKJ := Lib.hid hKj
          have HVJ := Lib.hid hVj
          have hb3 : Below w.heap.size w (wr.alloc (.cells #[.string Kj, .string Vj] 33)) := hB2.alloc hB2.size _
          have hbx := Blk.new wr 33 #[.string Kj, .string Vj]
          have hO3 : OwnR w.heap.size (wr.alloc (.cells #[.string Kj, .string Vj] 33)) u8 R := World.ownsRow.alloc hO _
          have hbT3 := hbT2.alloc (.cells #[.string Kj, .string Vj] 33)
          have hTl := hbT2.lt
          obtain ⟨Xb, hXb⟩ : ∃ Xb, Xb = wr.heap.size := ⟨_, rfl⟩
          have HXB := Lib.hid hXb
          have hXT : Xb ≠ T := by omega
          rw [← hXb] at hbx
          have hXr : ∀ y, u8.ownBlock = some y → y < Xb := fun y hy => by rw [hXb]; exact (World.ownsRow.lt hO y hy).2
          clear hKj hVj hB2 hO hbT2 hXb
          go_upto_region 14 with (fail)
          rw [← HXB.out]
          generalize hWX : wr.alloc (.cells #[.string Kj, .string Vj] 33) = WX at *
          clear hWX c0 c1
          have q0 : WX.cell? ⟨Xb, 0, none⟩ = some (.string Kj) := hbx.cell 0
          have q1 : WX.cell? ⟨Xb, 1, none⟩ = some (.string Vj) := hbx.cell 1
          have hXl := hbx.lt
          obtain ⟨A8, c8, hu8, hc8⟩ := hO3.two
          subst hu8
          by_cases hjd : j < dV k
          · have hd1 : dV k = 1 ∧ j = 0 ∧ ∃ wv, k.val = some wv := by
              unfold dV at hjd ⊢
              cases hv : k.val with
              | none => rw [hv] at hjd; simp [vals] at hjd
              | some wv => rw [hv] at hjd; simp [vals] at hjd ⊢; exact hjd
            obtain ⟨hd1, rfl, wv, hwv⟩ := hd1
            have how := prB_own hwv
            have hKs : (Kj.size : Int) = (n : Int) := by
              have := how.2.1
              rw [HKJ.out] at this
              rw [← size_of, this, HNL.out]
            have hVw : Vj = wv := by rw [← HVJ.out]; exact how.2.2
            obtain ⟨⟨z0, z1, z2, z3⟩, y0, y1, y2, y3⟩ := four hbT3
            have hb5 := (hbT3.set_ 1 (.bool true)).set_ 2 (.string Vj)
            have z2' := (hbT3.set_ 1 (.bool true)).cell 2
            have y2' := (hbT3.set_ 1 (.bool true)).frozen 2
            have hB5 : Below w.heap.size w ((WX.setCell ⟨T, 1, none⟩ (.bool true)).setCell ⟨T, 2, none⟩ (.string Vj)) := (hb3.setCell (p := ⟨T, 1, none⟩) hwT _).setCell (p := ⟨T, 2, none⟩) hwT _
            have hT8 : (Value.slice A8 R.length c8).ownBlock ≠ some T := own_ne hO3 (fun cur e => by unfold Blk at hbT3; rw [hbT3] at e; cases e)
            have hO5 := ownsRow_setCell_other (a := ⟨T, 2, none⟩) (ownsRow_setCell_other (a := ⟨T, 1, none⟩) hO3 hT8 (.bool true)) hT8 (.string Vj)
            have HVW := Lib.hid hVw
            have HWV := Lib.hid hwv
            have HD1 := Lib.hid hd1
            clear how hVw hwv hd1 z0 z3 y0 y3
            go_wp2_with fail
            refine wp_region_late (S := fun w' : World => w'.cell? ⟨Xb, 0, none⟩ = some (.string Kj) ∧ w'.cell? ⟨Xb, 1, none⟩ = some (.string Vj)) (st := 9) (by kernel_rfl) ?_
            have hS : (fun w' : World => w'.cell? ⟨Xb, 0, none⟩ = some (.string Kj) ∧ w'.cell? ⟨Xb, 1, none⟩ = some (.string Vj)) WX.drew := ⟨q0, q1⟩
            refine wpAnyL_take0 (i := 0) (oi := { dst := some 53, op := Go.Op.move (Go.Operand.tmp 7), type := 63, pos := "ref.go:44", after := #[], guard := none }) (v := .pointer (some ⟨T, 0, none⟩)) rfl (by kernel_rfl) (by kernel_rfl) (by kernel_rfl) (by kernel_rfl) (fun _ _ _ h => h) hS (Or.inl ⟨by rfl, fun w hSw => ?_⟩) ?_
            · go_split_ands
              go_simp
            try simp only [Act.put, List.setIfInBounds_toArray, List.set_cons_zero, List.set_cons_succ]
            refine wpAnyL_take0 (i := 1) (oi := { dst := some 54, op := Go.Op.move (Go.Operand.tmp 7), type := 63, pos := "ref.go:44", after := #[{ on := 6, ground := Go.Ground.gcOnly Go.Departure.lateStores }], guard := none }) (v := .pointer (some ⟨T, 0, none⟩)) rfl (by kernel_rfl) (by kernel_rfl) (by kernel_rfl) (by kernel_rfl) (fun _ _ _ h => h) hS (Or.inl ⟨by rfl, fun w hSw => ?_⟩) ?_
            · go_split_ands
              go_simp
            try simp only [Act.put, List.setIfInBounds_toArray, List.set_cons_zero, List.set_cons_succ]
            refine wpAnyL_take0 (i := 2) (oi := { dst := some 55, op := Go.Op.fieldAddr 33 (Go.Operand.tmp 10) 1, type := 0, pos := "ref.go:44", after := #[{ on := 6, ground := Go.Ground.gcOnly Go.Departure.lateStores }], guard := none }) (v := .pointer (some ⟨Xb, 1, none⟩)) rfl (by kernel_rfl) (by kernel_rfl) (by kernel_rfl) (by kernel_rfl) (fun _ _ _ h => h) hS (Or.inl ⟨by rfl, fun w hSw => ?_⟩) ?_
            · go_split_ands
              go_simp
            try simp only [Act.put, List.setIfInBounds_toArray, List.set_cons_zero, List.set_cons_succ]
            refine wpAnyL_take (i := 3) (oi := { dst := some 56, op := Go.Op.load 9 (Go.Operand.tmp 55), type := 9, pos := "ref.go:44", after := #[{ on := 2, ground := Go.Ground.data }, { on := 6, ground := Go.Ground.gcOnly Go.Departure.lateStores }], guard := none }) (v := .string Vj) rfl (by kernel_rfl) (by kernel_rfl) (by kernel_rfl) (by kernel_rfl) (fun _ _ _ h => h) hS (Or.inl ⟨by rfl, fun w hSw => ?_⟩) ?_
            · go_split_ands
              go_simp
            try simp only [Act.put, List.setIfInBounds_toArray, List.set_cons_zero, List.set_cons_succ]
            refine wpAnyL_take0 (i := 4) (oi := { dst := some 57, op := Go.Op.nilCheck (Go.Operand.tmp 53), type := 0, pos := "ref.go:44", after := #[{ on := 0, ground := Go.Ground.data }, { on := 0, ground := Go.Ground.phase }, { on := 1, ground := Go.Ground.textOnly Go.Departure.lateStores }, { on := 2, ground := Go.Ground.textOnly Go.Departure.lateStores }, { on := 3, ground := Go.Ground.textOnly Go.Departure.lateStores }], guard := none }) (v := .pointer (some ⟨T, 0, none⟩)) rfl (by kernel_rfl) (by kernel_rfl) (by kernel_rfl) (by kernel_rfl) (fun _ _ _ h => h) hS (Or.inl ⟨by rfl, fun w hSw => ?_⟩) ?_
            · go_split_ands
              go_simp
            try simp only [Act.put, List.setIfInBounds_toArray, List.set_cons_zero, List.set_cons_succ]
            refine wpAnyL_take0 (i := 5) (oi := { dst := some 58, op := Go.Op.fieldAddr 84 (Go.Operand.tmp 57) 1, type := 0, pos := "ref.go:44", after := #[{ on := 4, ground := Go.Ground.data }, { on := 0, ground := Go.Ground.phase }, { on := 1, ground := Go.Ground.textOnly Go.Departure.lateStores }, { on := 2, ground := Go.Ground.textOnly Go.Departure.lateStores }, { on := 3, ground := Go.Ground.textOnly Go.Departure.lateStores }], guard := none }) (v := .pointer (some ⟨T, 1, none⟩)) rfl (by kernel_rfl) (by kernel_rfl) (by kernel_rfl) (by kernel_rfl) (fun _ _ _ h => h) hS (Or.inl ⟨by rfl, fun w hSw => ?_⟩) ?_
            · go_split_ands
              go_simp
            try simp only [Act.put, List.setIfInBounds_toArray, List.set_cons_zero, List.set_cons_succ]
            refine wpAnyL_ready (rs := [6]) (by kernel_rfl) (by simp) ?_
            refine AllReadyL.cons (o := { dst := none, op := Go.Op.store 4 (Go.Operand.tmp 58) (Go.Operand.const (Go.Value.bool true)), type := 0, pos := "ref.go:44", after := #[{ on := 5, ground := Go.Ground.data }, { on := 0, ground := Go.Ground.phase }, { on := 1, ground := Go.Ground.textOnly Go.Departure.lateStores }, { on := 2, ground := Go.Ground.textOnly Go.Departure.lateStores }, { on := 3, ground := Go.Ground.textOnly Go.Departure.lateStores }], guard := none }) rfl (fun K hK => ?_) AllReadyL.nil
            go_simp
            have hSn : (fun w' : World => w'.cell? ⟨Xb, 0, none⟩ = some (.string Kj) ∧ w'.cell? ⟨Xb, 1, none⟩ = some (.string Vj)) _ := keep2s (i := 1) hS hXT (.bool true)
            refine hK.out _ _ (fun _ => hSn) ?_
            clear hK K hS
            try simp only [Act.put, List.setIfInBounds_toArray, List.set_cons_zero, List.set_cons_succ]
            have hS := hSn
            clear hSn
            refine wpAnyL_take0 (i := 7) (oi := { dst := some 59, op := Go.Op.nilCheck (Go.Operand.tmp 54), type := 0, pos := "ref.go:44", after := #[{ on := 1, ground := Go.Ground.data }, { on := 0, ground := Go.Ground.phase }, { on := 1, ground := Go.Ground.phase }, { on := 2, ground := Go.Ground.phase }, { on := 3, ground := Go.Ground.phase }, { on := 4, ground := Go.Ground.phase }, { on := 5, ground := Go.Ground.phase }, { on := 6, ground := Go.Ground.phase }], guard := none }) (v := .pointer (some ⟨T, 0, none⟩)) rfl (by kernel_rfl) (by kernel_rfl) (by kernel_rfl) (by kernel_rfl) (fun _ _ _ h => h) hS (Or.inl ⟨by rfl, fun w hSw => ?_⟩) ?_
            · go_split_ands
              go_simp
            try simp only [Act.put, List.setIfInBounds_toArray, List.set_cons_zero, List.set_cons_succ]
            refine wpAnyL_take0 (i := 8) (oi := { dst := some 60, op := Go.Op.fieldAddr 84 (Go.Operand.tmp 59) 2, type := 0, pos := "ref.go:44", after := #[{ on := 7, ground := Go.Ground.data }, { on := 0, ground := Go.Ground.phase }, { on := 1, ground := Go.Ground.phase }, { on := 2, ground := Go.Ground.phase }, { on := 3, ground := Go.Ground.phase }, { on := 4, ground := Go.Ground.phase }, { on := 5, ground := Go.Ground.phase }, { on := 6, ground := Go.Ground.phase }], guard := none }) (v := .pointer (some ⟨T, 2, none⟩)) rfl (by kernel_rfl) (by kernel_rfl) (by kernel_rfl) (by kernel_rfl) (fun _ _ _ h => h) hS (Or.inl ⟨by rfl, fun w hSw => ?_⟩) ?_
            · go_split_ands
              go_simp
            try simp only [Act.put, List.setIfInBounds_toArray, List.set_cons_zero, List.set_cons_succ]
            refine wpAnyL_ready (rs := [9]) (by kernel_rfl) (by simp) ?_
            refine AllReadyL.cons (o := { dst := none, op := Go.Op.store 9 (Go.Operand.tmp 60) (Go.Operand.tmp 56), type := 0, pos := "ref.go:44", after := #[{ on := 8, ground := Go.Ground.data }, { on := 3, ground := Go.Ground.data }, { on := 6, ground := Go.Ground.chain }, { on := 0, ground := Go.Ground.phase }, { on := 1, ground := Go.Ground.phase }, { on := 2, ground := Go.Ground.phase }, { on := 3, ground := Go.Ground.phase }, { on := 4, ground := Go.Ground.phase }, { on := 5, ground := Go.Ground.phase }, { on := 6, ground := Go.Ground.phase }], guard := none }) rfl (fun K hK => ?_) AllReadyL.nil
            go_simp
            refine hK.out _ _ (late_no (by kernel_rfl)) ?_
            clear hK K
            try simp only [Act.put, List.setIfInBounds_toArray, List.set_cons_zero, List.set_cons_succ]
            refine wpAnyL_done (by kernel_rfl) ?_ _
            go_wp2_with fail
            refine ⟨⟨1, R, by omega, by go_num, Lib.hid ?_, hO5, ?_, ?_⟩, by simp [intOf]; omega⟩
            · rw [hRR.out, HD1.out]
            · rw [ownV_one HWV.out HD1.out, ← HVW.out]
              exact hb5
            · exact hB5.drew
          · obtain ⟨k1, k2, k3, k4⟩ := prB_kid HC.out (Nat.le_of_not_lt hjd) (by rw [← HN.out]; exact hlt)
            rw [HKJ.out, ← HNL.out] at k1 k2
            rw [HVJ.out] at k3
            have hKs : ¬ ((Kj.size : Int) = (n : Int)) := by omega
            have hKle : (n : Int) ≤ (Kj.size : Int) := by
              have := (prB_pre (k := k) (j := j) (by rw [← HN.out]; exact hlt)).length_le
              rw [HKJ.out, size_of, ← HNL.out] at this
              omega
            have hRs : R ++ [(Kj.extract n Kj.size, Vj)] = (prL k.kids).take (j + 1 - dV k) := by
              rw [k2, k3, hRR.out, show j + 1 - dV k = (j - dV k) + 1 by omega, List.take_add_one, pat_get k4]
              rfl
            have HRS := Lib.hid hRs
            have HOV := Lib.hid (ownV_same (k := k) (Nat.le_of_not_lt hjd))
            have hB8 : Below WX.heap.size WX (WX.alloc (.cells #[.string (Kj.extract n Kj.size), .string Vj] 33)).drew := ((Below.refl _ WX).alloc (Nat.le_refl _) _).drew
            have hB80 : Below w.heap.size w (WX.alloc (.cells #[.string (Kj.extract n Kj.size), .string Vj] 33)).drew := (hb3.alloc hb3.size _).drew
            have hrow8 : (WX.alloc (.cells #[.string (Kj.extract n Kj.size), .string Vj] 33)).drew.ownsRow w.heap.size 33 2 (.slice A8 R.length c8) R.length (flat R) := World.ownsRow.alloc hO3 _
            have n8 : (WX.alloc (.cells #[.string (Kj.extract n Kj.size), .string Vj] 33)).drew.heap[WX.heap.size]? = some (.cells #[.string (Kj.extract n Kj.size), .string Vj] 33 (0, 0)) := Blk.new WX 33 _
            have hbT8 : Blk (WX.alloc (.cells #[.string (Kj.extract n Kj.size), .string Vj] 33)).drew T 84 _ := hbT3.alloc _
            have hsz8 : w.heap.size ≤ (WX.alloc (.cells #[.string (Kj.extract n Kj.size), .string Vj] 33)).drew.heap.size := hB80.size
            have hTne : (Value.slice A8 R.length c8).ownBlock ≠ some T := own_ne hO3 (fun cur e => by unfold Blk at hbT3; rw [hbT3] at e; cases e)
            have hX8 : (Value.slice A8 R.length c8).ownBlock ≠ some Xb := fun e => by have := hXr _ e; omega
            clear k1 k2 k3 k4 hRs hO3
            go_wp2_with fail
            refine wp_region_late (S := fun w' : World => w'.cell? ⟨Xb, 0, none⟩ = some (.string Kj) ∧ w'.cell? ⟨Xb, 1, none⟩ = some (.string Vj)) (st := 10) (by kernel_rfl) ?_
            have hS : (fun w' : World => w'.cell? ⟨Xb, 0, none⟩ = some (.string Kj) ∧ w'.cell? ⟨Xb, 1, none⟩ = some (.string Vj)) WX.drew := ⟨q0, q1⟩
            refine wpAnyL_take0 (i := 0) (oi := { dst := some 61, op := Go.Op.move (Go.Operand.tmp 8), type := 28, pos := "ref.go:46", after := #[], guard := none }) (v := .slice A8 R.length c8) rfl (by kernel_rfl) (by kernel_rfl) (by kernel_rfl) (by kernel_rfl) (fun _ _ _ h => h) hS (Or.inl ⟨by rfl, fun w hSw => ?_⟩) ?_
            · go_split_ands
              go_simp
            try simp only [Act.put, List.setIfInBounds_toArray, List.set_cons_zero, List.set_cons_succ]
            refine wpAnyL_take0 (i := 1) (oi := { dst := some 62, op := Go.Op.fieldAddr 33 (Go.Operand.tmp 10) 0, type := 0, pos := "ref.go:46", after := #[], guard := none }) (v := .pointer (some ⟨Xb, 0, none⟩)) rfl (by kernel_rfl) (by kernel_rfl) (by kernel_rfl) (by kernel_rfl) (fun _ _ _ h => h) hS (Or.inl ⟨by rfl, fun w hSw => ?_⟩) ?_
            · go_split_ands
              go_simp
            try simp only [Act.put, List.setIfInBounds_toArray, List.set_cons_zero, List.set_cons_succ]
            refine wpAnyL_take (i := 2) (oi := { dst := some 63, op := Go.Op.load 9 (Go.Operand.tmp 62), type := 9, pos := "ref.go:46", after := #[{ on := 1, ground := Go.Ground.data }], guard := none }) (v := .string Kj) rfl (by kernel_rfl) (by kernel_rfl) (by kernel_rfl) (by kernel_rfl) (fun _ _ _ h => h) hS (Or.inl ⟨by rfl, fun w hSw => ?_⟩) ?_
            · go_split_ands
              go_simp
            try simp only [Act.put, List.setIfInBounds_toArray, List.set_cons_zero, List.set_cons_succ]
            refine wpAnyL_take0 (i := 3) (oi := { dst := some 64, op := Go.Op.move (Go.Operand.tmp 3), type := 3, pos := "ref.go:46", after := #[], guard := none }) (v := .int .i64 n) rfl (by kernel_rfl) (by kernel_rfl) (by kernel_rfl) (by kernel_rfl) (fun _ _ _ h => h) hS (Or.inl ⟨by rfl, fun w hSw => ?_⟩) ?_
            · go_split_ands
              go_simp
            try simp only [Act.put, List.setIfInBounds_toArray, List.set_cons_zero, List.set_cons_succ]
            refine wpAnyL_take0 (i := 4) (oi := { dst := some 65, op := Go.Op.slice 9 (Go.Operand.tmp 63) (some (Go.Operand.tmp 64)) none none, type := 9, pos := "ref.go:46", after := #[{ on := 2, ground := Go.Ground.data }, { on := 3, ground := Go.Ground.data }], guard := none }) (v := .string (Kj.extract n Kj.size)) rfl (by kernel_rfl) (by kernel_rfl) (by kernel_rfl) (by kernel_rfl) (fun _ _ _ h => h) hS (Or.inl ⟨by rfl, fun w hSw => ?_⟩) ?_
            · go_split_ands
              go_simp
            try simp only [Act.put, List.setIfInBounds_toArray, List.set_cons_zero, List.set_cons_succ]
            refine wpAnyL_take0 (i := 5) (oi := { dst := some 66, op := Go.Op.fieldAddr 33 (Go.Operand.tmp 10) 1, type := 0, pos := "ref.go:46", after := #[], guard := none }) (v := .pointer (some ⟨Xb, 1, none⟩)) rfl (by kernel_rfl) (by kernel_rfl) (by kernel_rfl) (by kernel_rfl) (fun _ _ _ h => h) hS (Or.inl ⟨by rfl, fun w hSw => ?_⟩) ?_
            · go_split_ands
              go_simp
            try simp only [Act.put, List.setIfInBounds_toArray, List.set_cons_zero, List.set_cons_succ]
            refine wpAnyL_take (i := 6) (oi := { dst := some 67, op := Go.Op.load 9 (Go.Operand.tmp 66), type := 9, pos := "ref.go:46", after := #[{ on := 5, ground := Go.Ground.data }], guard := none }) (v := .string Vj) rfl (by kernel_rfl) (by kernel_rfl) (by kernel_rfl) (by kernel_rfl) (fun _ _ _ h => h) hS (Or.inl ⟨by rfl, fun w hSw => ?_⟩) ?_
            · go_split_ands
              go_simp
            try simp only [Act.put, List.setIfInBounds_toArray, List.set_cons_zero, List.set_cons_succ]
            refine wpAnyL_take0 (i := 7) (oi := { dst := some 68, op := Go.Op.build 33 #[(0, Go.Operand.tmp 65), (1, Go.Operand.tmp 67)], type := 33, pos := "ref.go:46", after := #[{ on := 4, ground := Go.Ground.data }, { on := 6, ground := Go.Ground.data }], guard := none }) (v := .agg #[.string (Kj.extract n Kj.size), .string Vj]) rfl (by kernel_rfl) (by kernel_rfl) (by kernel_rfl) (by kernel_rfl) (fun _ _ _ h => h) hS (Or.inl ⟨by rfl, fun w hSw => ?_⟩) ?_
            · go_split_ands
              go_simp
            try simp only [Act.put, List.setIfInBounds_toArray, List.set_cons_zero, List.set_cons_succ]
            refine wpAnyL_ready (rs := [8]) (by kernel_rfl) (by simp) ?_
            refine AllReadyL.cons (o := { dst := some 69, op := Go.Op.buildSlice 28 1 #[(0, Go.Operand.tmp 68)], type := 28, pos := "ref.go:46", after := #[{ on := 7, ground := Go.Ground.data }], guard := none }) rfl (fun K hK => ?_) AllReadyL.nil
            go_simp
            have hSn : (fun w' : World => w'.cell? ⟨Xb, 0, none⟩ = some (.string Kj) ∧ w'.cell? ⟨Xb, 1, none⟩ = some (.string Vj)) _ := ⟨(hB8.cell hXl).trans q0, (hB8.cell hXl).trans q1⟩
            refine hK.out _ _ (fun _ => hSn) ?_
            clear hK K hS
            try simp only [Act.put, List.setIfInBounds_toArray, List.set_cons_zero, List.set_cons_succ]
            have hS := hSn
            clear hSn
            generalize hW8 : (WX.alloc (.cells #[.string (Kj.extract n Kj.size), .string Vj] 33)).drew = W8 at *
            refine wpAnyL_ready (rs := [9]) (by kernel_rfl) (by simp) ?_
            refine AllReadyL.cons (o := { dst := some 70, op := Go.Op.call { callee := Go.Callee.builtin Go.Builtin.append, args := #[Go.Operand.tmp 61, Go.Operand.tmp 69], argTypes := #[28, 28] }, type := 28, pos := "ref.go:46", after := #[{ on := 0, ground := Go.Ground.data }, { on := 8, ground := Go.Ground.data }], guard := none }) rfl (fun K hK => ?_) AllReadyL.nil
            refine step_append_lies _ (by rfl) _ _ _ (by rfl) w.heap.size 33 i0 _ 2 32 Try.underlying28 hi hz0 hz1 hz2 (by rfl) (by decide) (.slice A8 R.length c8) R.length (flat R) (by rfl) hrow8 ⟨WX.heap.size, 0, none⟩ 1 1 [.string (Kj.extract n Kj.size), .string Vj] (by rfl) rfl (World.news_of_block n8) (by simp [Value.oneCell']) (by omega) (by unfold maxLen; omega) (by omega) hsz8 _ rfl ?_
            intro g9 cap9 W9 hown9 hgrow9 hat9 hlt9
            have hSn := keepG hgrow9 hX8 hS
            refine hK.out _ _ (fun _ => hSn) ?_
            clear hK K hS
            try simp only [Act.put, List.setIfInBounds_toArray, List.set_cons_zero, List.set_cons_succ]
            have hS := hSn
            clear hSn
            refine wpAnyL_ready (rs := [10]) (by kernel_rfl) (by simp) ?_
            refine AllReadyL.cons (o := { dst := some 8, op := Go.Op.assign (Go.Operand.tmp 70), type := 28, pos := "ref.go:46", after := #[{ on := 9, ground := Go.Ground.data }, { on := 9, ground := Go.Ground.chain }, { on := 0, ground := Go.Ground.phase }, { on := 1, ground := Go.Ground.phase }, { on := 2, ground := Go.Ground.phase }, { on := 3, ground := Go.Ground.phase }, { on := 4, ground := Go.Ground.phase }, { on := 5, ground := Go.Ground.phase }, { on := 6, ground := Go.Ground.phase }, { on := 7, ground := Go.Ground.phase }, { on := 8, ground := Go.Ground.phase }, { on := 9, ground := Go.Ground.phase }], guard := none }) rfl (fun K hK => ?_) AllReadyL.nil
            go_simp
            refine hK.out _ _ (late_no (by kernel_rfl)) ?_
            clear hK K
            try simp only [Act.put, List.setIfInBounds_toArray, List.set_cons_zero, List.set_cons_succ]
            refine wpAnyL_done (by kernel_rfl) ?_ _
            have hB9 : Below w.heap.size w W9 := hB80.grown hgrow9 hsz8 (own_ge hrow8)
            have hbT9 : Blk W9 T 84 _ := (hgrow9.block T hbT8.lt (fun e => hTne e.symm)).trans hbT8
            go_wp2_with fail
            refine ⟨⟨j + 1, R ++ [(Kj.extract n Kj.size, Vj)], by omega, by go_num, Lib.hid HRS.out, ?_, ?_, hB9⟩, by simp [intOf]; omega⟩
            · exact OwnR.snoc hown9
            · rw [HOV.out]; exact hbT9
        · have hjN' : ¬ ((j : Int) < (N : Int)) := by omega
          obtain ⟨A8, c8, hu8, hc8⟩ := hO.two
          have hRd := OwnR.rd2 hO hu8
          subst hu8
          have hlen := prB_len k
          rw [← HN.out] at hlen
          have hRe : R = prL k.kids := by rw [hRR.out, List.take_of_length_le (by omega)]
          have hjd : dV k ≤ j := by omega
          have hov : ownV k j = k.val := by unfold ownV; rw [if_pos hjd]
          rw [hov] at hbT2
          rw [hRe] at hRd hc8
          have kg := groups_any k.kids (fun u hu => ⟨HC.out.kids u hu, HC.out.kd u hu⟩) HC.out.rises HK.out A8 c8 wr hRd hc8 (by omega) (fun p hp => ?_) (by have := kids_few HC.out; omega)
          · have HRE := Lib.hid hRe
            have hTl := hbT2.lt
            rw [← hRe] at kg
            clear hRe hov hO hc8 hRd
            go_wp2_with fail
            refine kg.mono ?_
            rintro e w3 ⟨v, rs, rfl, hOT, hrs, hF, hB3⟩
            have hbT4 := hbT2.stay hB3
            obtain ⟨⟨z0, z1, z2, z3⟩, y0, y1, y2, y3⟩ := four hbT4
            obtain ⟨A4, c4, hv4⟩ := hOT.form
            have hvT : v.ownBlock ≠ some T := own_ne hOT (fun cur e => by unfold Blk at hbT4; rw [hbT4] at e; cases e)
            subst hv4
            have hb6 := hbT4.set_ 3 (.slice A4 rs.length c4)
            have hO6 := ownsRow_setCell_other (a := ⟨T, 3, none⟩) hOT hvT (.slice A4 rs.length c4)
            have hk6 : Keep [T] w3 (w3.setCell ⟨T, 3, none⟩ (.slice A4 rs.length c4)) := (Keep.refl [T] w3).setCell (p := ⟨T, 3, none⟩) (by simp) _
            have hB6 : Below w.heap.size w (w3.setCell ⟨T, 3, none⟩ (.slice A4 rs.length c4)) := (hB2.trans (hB3.mono hB2.size)).setCell (p := ⟨T, 3, none⟩) hwT _
            have HRSL := Lib.hid hrs
            have hwu := hB2.size
            clear z0 z1 z2 hOT hbT4 hbT2 hrs kg
            go_wp2_with fail
            go_ret
            refine ⟨T, rfl, .mk (kv := .slice A4 rs.length c4) (bs := rs) ⟨⟨LB, k.val.getD ⟨#[]⟩, hb6, HKN.out, rfl⟩, OwnT.base hO6 (Nat.zero_le _), HRSL.out⟩ hwT (fun g' hg' => Nat.le_trans hwu (own_ge hO6 g' hg')) (fun i c' k' h1 h2 => ?_), hB6⟩
            exact ((hF i c' k' h1 h2).keep hk6 (fun x hx hm => by simp at hm; have := hx.1; omega)).mono fun x hx _ => Nat.le_trans hwu hx.1
          · have hp' : p ∈ prL k.kids := hp
            unfold prL at hp'
            rw [List.mem_map] at hp'
            obtain ⟨x, hx, rfl⟩ := hp'
            have hm : toPr (k.lab ++ x.1, x.2) ∈ prB k := by rw [prB_split]; exact List.mem_append.2 (.inr (List.mem_map.2 ⟨x, hx, rfl⟩))
            have h1 := HZ.out _ hm
            rw [toPr_size, List.length_append] at h1
            have h2 := toPr_size x.1 x.2
            have h3 : (toPr x).1.size = x.1.length := h2
            omega
end Go.Proofs.Ytchimfgbdfmegab
