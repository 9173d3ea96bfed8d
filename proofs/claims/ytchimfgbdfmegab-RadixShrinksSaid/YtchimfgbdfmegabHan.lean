/- The reference's Of. -/
import Derived.Test.YtchimfgbdfmegabHam
import Derived.Test.YtchimfgbdfmegabHal
namespace Go.Proofs.Ytchimfgbdfmegab
open Go.RowKit Go.Lib
set_option linter.unusedVariables false
set_option maxRecDepth 100000
set_option linter.unnecessarySimpa false
set_option linter.unusedSimpArgs false
set_option linter.unnecessarySimpa false
set_option maxRecDepth 100000
theorem branch_all : ∀ k : RX, Can k → Kd k → BranchOK k := by
  intro k
  induction k using RX.ind with
  | h k ih => exact fun hc hd => branch_any k hc hd (fun u hu => ih u hu (hc.kids u hu) (hc.kd u hu))
/-- what Of leaves -/
def OfPost (t : RX) (w : World) (e : Ending) (w' : World) : Prop := ∃ b, e = .returned (at0 b) ∧ RefW (fun x => w.heap.size ≤ x) w' b t ∧ Below w.heap.size w w'
theorem prL_small (t : RX) : (prL t.kids).length ≤ (prs t).length := by rw [prs_kids, List.length_append]; omega
theorem kids_ne {t : RX} (hc : Can t) {j : Nat} (hj : j < (prL t.kids).length) : ∃ x s, key (pat (prL t.kids) j) = x :: s := by
  have hm : pat (prL t.kids) j ∈ prL t.kids := by unfold pat; rw [List.getElem?_eq_getElem hj]; exact List.getElem_mem hj
  unfold prL at hm
  rw [List.mem_map] at hm
  obtain ⟨x, hx, e⟩ := hm
  have hne := kids_key hc hx
  obtain ⟨b, r, hb⟩ := List.exists_cons_of_ne_nil hne
  exact ⟨b, r, by unfold prL; rw [← e]; simp [key, toPr, hb]⟩
theorem key_ne {p : Pr} {x : UInt8} {s : List UInt8} (h : key p = x :: s) : (p.1.toList == ([] : List UInt8)) = false := by
  have : p.1.toList ≠ [] := fun e => by rw [ByteArray.toList_eq] at e; unfold key at h; rw [e] at h; cases h
  simpa using this
set_option maxHeartbeats 1000000 in
theorem of_kids (t : RX) (hc : Can t) (hl : t.lab = []) (hv : t.val = none) (A : Option Addr) (c : Nat) (w : World) (hR : Rd w A (prs t)) (hn : (prs t).length ≤ 1000) (hcap : (prs t).length ≤ c) (hz : ∀ p ∈ prs t, p.1.size ≤ 1000) :
    Calls Try.prog 26 #[.slice A (prs t).length c] w (OfPost t w) := by
  have hpk : prs t = prL t.kids := by rw [prs_kids, hv]; rfl
  rw [hpk] at hR hn hcap hz ⊢
  have hbT := Blk.new w 84 #[.string ⟨#[]⟩, .bool false, .string ⟨#[]⟩, .slice none 0 0]
  have hB1 : Below w.heap.size w (w.alloc (.cells #[.string ⟨#[]⟩, .bool false, .string ⟨#[]⟩, .slice none 0 0] 84)) := (Below.refl _ w).alloc (Nat.le_refl _) _
  have hfirst : 0 < (prL t.kids).length → ∃ (g off : Nat) (K0 : ByteArray), A = some ⟨g, off, none⟩ ∧ w.cell? ⟨g, off, none⟩ = some (.string K0) ∧ (K0.toList == ([] : List UInt8)) = false := fun h => by
    obtain ⟨g, off, e, c0, -⟩ := hR.at 0 h
    obtain ⟨x, s, hx⟩ := kids_ne hc h
    simp only [Nat.zero_mul, Nat.add_zero] at c0
    exact ⟨g, off, _, e, c0, key_ne hx⟩
  have kg := fun W (hW : Below w.heap.size w W) => groups_any t.kids (fun u hu => ⟨hc.kids u hu, hc.kd u hu⟩) hc.rises (fun u hu => branch_all u (hc.kids u hu) (hc.kd u hu)) A c W (hR.below hW) hcap hn hz (by have := kids_few hc; omega)
  have HV := Lib.hid hv
  have HL := Lib.hid hl
  have HKG := Lib.hid kg
  obtain ⟨N, hN⟩ : ∃ N, N = (prL t.kids).length := ⟨_, rfl⟩
  rw [← hN] at hfirst HKG ⊢
  clear hpk hR hn hcap hz hv hl kg hN
  obtain ⟨W1, hW1⟩ : ∃ W1, W1 = w.alloc (.cells #[.string ⟨#[]⟩, .bool false, .string ⟨#[]⟩, .slice none 0 0] 84) := ⟨_, rfl⟩
  obtain ⟨T, hT⟩ : ∃ T, T = w.heap.size := ⟨_, rfl⟩
  have fin : ∀ (a : Act) (rest : Prop), True := fun _ _ => trivial
  have HW1 := Lib.hid hW1
  have HT := Lib.hid hT
  rw [← hW1, ← hT] at hbT
  rw [← hW1] at hB1
  have kg1 := HKG.out W1 hB1
  clear hW1 hT fin
  by_cases h0 : 0 < N
  · obtain ⟨g, off, K0, rfl, c0, hne⟩ := hfirst h0
    have c0' := (hB1.cell (World.block_lt_of_cell? _ _ c0)).trans c0
    have hN0 : (0 : Int) < (N : Int) := by omega
    clear hfirst c0
    go_enter Try.func26, Try.ntmps26
    go_upto_region 2 with (fail)
    rw [← HW1.out, ← HT.out]
    go_wp2_with fail
    refine kg1.mono ?_
    rintro e w3 ⟨v, rs, rfl, hOT, hrs, hF, hB3⟩
    have hbT4 := hbT.stay hB3
    obtain ⟨⟨z0, z1, z2, z3⟩, y0, y1, y2, y3⟩ := four hbT4
    obtain ⟨A4, c4, hv4⟩ := hOT.form
    have hvT : v.ownBlock ≠ some T := own_ne hOT (fun cur e => by unfold Blk at hbT4; rw [hbT4] at e; cases e)
    have hTl := hbT.lt
    subst hv4
    have hb6 := hbT4.set_ 3 (.slice A4 rs.length c4)
    have hO6 := ownsRow_setCell_other (a := ⟨T, 3, none⟩) hOT hvT (.slice A4 rs.length c4)
    have hk6 : Keep [T] w3 (w3.setCell ⟨T, 3, none⟩ (.slice A4 rs.length c4)) := (Keep.refl [T] w3).setCell (p := ⟨T, 3, none⟩) (by simp) _
    have hwT : w.heap.size ≤ T := by rw [HT.out]; exact Nat.le_refl _
    have hB6 : Below w.heap.size w (w3.setCell ⟨T, 3, none⟩ (.slice A4 rs.length c4)) := (hB1.trans (hB3.mono hB1.size)).setCell (p := ⟨T, 3, none⟩) hwT _
    have HRSL := Lib.hid hrs
    have hwu := hB1.size
    clear z0 z1 z2 hOT hbT4 hbT hrs kg1 HKG
    go_wp2_with fail
    go_ret
    refine ⟨T, rfl, .mk (kv := .slice A4 rs.length c4) (bs := rs) ⟨⟨⟨#[]⟩, ⟨#[]⟩, by rw [HV.out]; exact hb6, by rw [HL.out], by rw [HV.out]; rfl⟩, OwnT.base hO6 (Nat.zero_le _), HRSL.out⟩ hwT (fun g' hg' => Nat.le_trans hwu (own_ge hO6 g' hg')) (fun i c' k' h1 h2 => ?_), hB6⟩
    exact ((hF i c' k' h1 h2).keep hk6 (fun x hx hm => by simp at hm; have := hx.1; omega)).mono fun x hx _ => Nat.le_trans hwu hx.1
  · have hN0 : ¬ ((0 : Int) < (N : Int)) := by omega
    clear hfirst
    go_enter Try.func26, Try.ntmps26
    go_upto_region 2 with (fail)
    rw [← HW1.out, ← HT.out]
    go_wp2_with fail
    refine kg1.mono ?_
    rintro e w3 ⟨v, rs, rfl, hOT, hrs, hF, hB3⟩
    have hbT4 := hbT.stay hB3
    obtain ⟨⟨z0, z1, z2, z3⟩, y0, y1, y2, y3⟩ := four hbT4
    obtain ⟨A4, c4, hv4⟩ := hOT.form
    have hvT : v.ownBlock ≠ some T := own_ne hOT (fun cur e => by unfold Blk at hbT4; rw [hbT4] at e; cases e)
    have hTl := hbT.lt
    subst hv4
    have hb6 := hbT4.set_ 3 (.slice A4 rs.length c4)
    have hO6 := ownsRow_setCell_other (a := ⟨T, 3, none⟩) hOT hvT (.slice A4 rs.length c4)
    have hk6 : Keep [T] w3 (w3.setCell ⟨T, 3, none⟩ (.slice A4 rs.length c4)) := (Keep.refl [T] w3).setCell (p := ⟨T, 3, none⟩) (by simp) _
    have hwT : w.heap.size ≤ T := by rw [HT.out]; exact Nat.le_refl _
    have hB6 : Below w.heap.size w (w3.setCell ⟨T, 3, none⟩ (.slice A4 rs.length c4)) := (hB1.trans (hB3.mono hB1.size)).setCell (p := ⟨T, 3, none⟩) hwT _
    have HRSL := Lib.hid hrs
    have hwu := hB1.size
    clear z0 z1 z2 hOT hbT4 hbT hrs kg1 HKG
    go_wp2_with fail
    go_ret
    refine ⟨T, rfl, .mk (kv := .slice A4 rs.length c4) (bs := rs) ⟨⟨⟨#[]⟩, ⟨#[]⟩, by rw [HV.out]; exact hb6, by rw [HL.out], by rw [HV.out]; rfl⟩, OwnT.base hO6 (Nat.zero_le _), HRSL.out⟩ hwT (fun g' hg' => Nat.le_trans hwu (own_ge hO6 g' hg')) (fun i c' k' h1 h2 => ?_), hB6⟩
    exact ((hF i c' k' h1 h2).keep hk6 (fun x hx hm => by simp at hm; have := hx.1; omega)).mono fun x hx _ => Nat.le_trans hwu hx.1
set_option maxHeartbeats 1000000 in
theorem of_own (t : RX) (hc : Can t) (hl : t.lab = []) (wv : ByteArray) (hv : t.val = some wv) (A : Option Addr) (c : Nat) (w : World) (hR : Rd w A (prs t)) (hn : (prs t).length ≤ 1000) (hcap : (prs t).length ≤ c) (hz : ∀ p ∈ prs t, p.1.size ≤ 1000) :
    Calls Try.prog 26 #[.slice A (prs t).length c] w (OfPost t w) := by
  have hpk : prs t = (⟨#[]⟩, wv) :: prL t.kids := by rw [prs_kids, hv]; rfl
  rw [hpk] at hR hn hcap hz ⊢
  have hbT := Blk.new w 84 #[.string ⟨#[]⟩, .bool false, .string ⟨#[]⟩, .slice none 0 0]
  have hB1 : Below w.heap.size w (w.alloc (.cells #[.string ⟨#[]⟩, .bool false, .string ⟨#[]⟩, .slice none 0 0] 84)) := (Below.refl _ w).alloc (Nat.le_refl _) _
  obtain ⟨g, off, rfl, c0, c1⟩ := hR.at 0 (by simp)
  simp only [Nat.zero_mul, Nat.add_zero] at c0 c1
  have hp0 : pat ((⟨#[]⟩, wv) :: prL t.kids : List Pr) 0 = (⟨#[]⟩, wv) := rfl
  rw [hp0] at c0 c1
  obtain ⟨N, hN⟩ : ∃ N, N = (prL t.kids).length := ⟨_, rfl⟩
  have hlen : ((⟨#[]⟩, wv) :: prL t.kids : List Pr).length = N + 1 := by rw [List.length_cons, hN]
  have hNle : N + 1 ≤ 1000 ∧ N + 1 ≤ c := by rw [← hlen]; exact ⟨hn, hcap⟩
  rw [hlen]
  obtain ⟨A', hA', hRk⟩ : ∃ A', (if c = 1 then (some ⟨g, off, none⟩ : Option Addr) else some ⟨g, off + 1 * 2, none⟩) = A' ∧ ∀ W, Below w.heap.size w W → Rd W A' (prL t.kids) := by
    by_cases h : c = 1
    · refine ⟨_, rfl, fun W _ => ?_⟩
      have : prL t.kids = [] := List.length_eq_zero_iff.1 (by omega)
      rw [this]
      exact fun j p hj => by simp at hj
    · refine ⟨_, rfl, fun W hW => ?_⟩
      rw [if_neg h]
      exact Rd.drop (hR.below hW) 1
  have kg := fun W (hW : Below w.heap.size w W) => groups_any t.kids (fun u hu => ⟨hc.kids u hu, hc.kd u hu⟩) hc.rises (fun u hu => branch_all u (hc.kids u hu) (hc.kd u hu)) A' (c - 1) W (hRk W hW) (by omega) (by omega) (fun p hp => hz p (by simp [hp])) (by have := kids_few hc; omega)
  rw [← hN] at kg
  have HV := Lib.hid hv
  have HL := Lib.hid hl
  have HKG := Lib.hid kg
  have hz9 : ((⟨#[]⟩ : ByteArray).toList == ([] : List UInt8)) = true := by rw [ByteArray.toList_eq]; rfl
  obtain ⟨W1, hW1⟩ : ∃ W1, W1 = w.alloc (.cells #[.string ⟨#[]⟩, .bool false, .string ⟨#[]⟩, .slice none 0 0] 84) := ⟨_, rfl⟩
  obtain ⟨T, hT⟩ : ∃ T, T = w.heap.size := ⟨_, rfl⟩
  have HW1 := Lib.hid hW1
  have HT := Lib.hid hT
  rw [← hW1, ← hT] at hbT
  rw [← hW1] at hB1
  have c0' := (hB1.cell (World.block_lt_of_cell? _ _ c0)).trans c0
  have c1' := (hB1.cell (World.block_lt_of_cell? _ _ c1)).trans c1
  have hgl : g < w.heap.size := World.block_lt_of_cell? _ _ c0
  have hgT : g ≠ T := by omega
  obtain ⟨⟨z0, z1, z2, z3⟩, y0, y1, y2, y3⟩ := four hbT
  have hbT2 := hbT.set_ 1 (.bool true)
  have z2' := hbT2.cell 2
  have y2' := hbT2.frozen 2
  have hbT3 := hbT2.set_ 2 (.string wv)
  have hwT : w.heap.size ≤ T := by rw [hT]; exact Nat.le_refl _
  have hB2 : Below w.heap.size w ((W1.setCell ⟨T, 1, none⟩ (.bool true)).setCell ⟨T, 2, none⟩ (.string wv)) := (hB1.setCell (p := ⟨T, 1, none⟩) hwT _).setCell (p := ⟨T, 2, none⟩) hwT _
  have kg1 := HKG.out _ hB2
  have hN0 : (0 : Int) < ((N + 1 : Nat) : Int) := by omega
  have h1c : 1 ≤ c := by omega
  have h1N : 1 ≤ N + 1 := by omega
  have HLEN := Lib.hid hlen
  have HNN := Lib.hid hN
  clear hpk hR hn hcap hz hv hl kg hN hW1 hT hRk hp0 c0 c1 HKG hlen hbT hbT2
  by_cases hc1 : c = 1
  · rw [if_pos hc1] at hA'
    subst hA'
    subst hc1
    obtain rfl : N = 0 := by omega
    replace kg1 : Calls Try.prog 45 #[.slice (some ⟨g, off, none⟩) 0 0] _ _ := kg1
    go_enter Try.func26, Try.ntmps26
    go_upto_region 2 with (fail)
    rw [← HW1.out, ← HT.out]
    go_wp2_with fail
    refine kg1.mono ?_
    rintro e w3 ⟨v, rs, rfl, hOT, hrs, hF, hB3⟩
    have hbT4 := hbT3.stay hB3
    obtain ⟨⟨x0, x1, x2, x3⟩, u0, u1, u2, u3⟩ := four hbT4
    obtain ⟨A4, c4, hv4⟩ := hOT.form
    have hvT : v.ownBlock ≠ some T := own_ne hOT (fun cur e => by unfold Blk at hbT4; rw [hbT4] at e; cases e)
    have hTl := hbT3.lt
    subst hv4
    have hb6 := hbT4.set_ 3 (.slice A4 rs.length c4)
    have hO6 := ownsRow_setCell_other (a := ⟨T, 3, none⟩) hOT hvT (.slice A4 rs.length c4)
    have hk6 : Keep [T] w3 (w3.setCell ⟨T, 3, none⟩ (.slice A4 rs.length c4)) := (Keep.refl [T] w3).setCell (p := ⟨T, 3, none⟩) (by simp) _
    have hB6 : Below w.heap.size w (w3.setCell ⟨T, 3, none⟩ (.slice A4 rs.length c4)) := (hB2.trans (hB3.mono hB2.size)).setCell (p := ⟨T, 3, none⟩) hwT _
    have HRSL := Lib.hid hrs
    have hwu := hB2.size
    clear x0 x1 x2 hOT hbT4 hbT3 hrs kg1
    go_wp2_with fail
    go_ret
    refine ⟨T, rfl, .mk (kv := .slice A4 rs.length c4) (bs := rs) ⟨⟨⟨#[]⟩, wv, by rw [HV.out]; exact hb6, by rw [HL.out], by rw [HV.out]; rfl⟩, OwnT.base hO6 (Nat.zero_le _), HRSL.out⟩ hwT (fun g' hg' => Nat.le_trans hwu (own_ge hO6 g' hg')) (fun i c' k' h1 h2 => ?_), hB6⟩
    exact ((hF i c' k' h1 h2).keep hk6 (fun x hx hm => by simp at hm; have := hx.1; omega)).mono fun x hx _ => Nat.le_trans hwu hx.1
  · rw [if_neg hc1] at hA'
    subst hA'
    replace kg1 : Calls Try.prog 45 #[.slice (some ⟨g, off + 2, none⟩) N (c - 1)] _ _ := kg1
    go_enter Try.func26, Try.ntmps26
    go_upto_region 2 with (fail)
    rw [← HW1.out, ← HT.out]
    go_wp2_with fail
    refine kg1.mono ?_
    rintro e w3 ⟨v, rs, rfl, hOT, hrs, hF, hB3⟩
    have hbT4 := hbT3.stay hB3
    obtain ⟨⟨x0, x1, x2, x3⟩, u0, u1, u2, u3⟩ := four hbT4
    obtain ⟨A4, c4, hv4⟩ := hOT.form
    have hvT : v.ownBlock ≠ some T := own_ne hOT (fun cur e => by unfold Blk at hbT4; rw [hbT4] at e; cases e)
    have hTl := hbT3.lt
    subst hv4
    have hb6 := hbT4.set_ 3 (.slice A4 rs.length c4)
    have hO6 := ownsRow_setCell_other (a := ⟨T, 3, none⟩) hOT hvT (.slice A4 rs.length c4)
    have hk6 : Keep [T] w3 (w3.setCell ⟨T, 3, none⟩ (.slice A4 rs.length c4)) := (Keep.refl [T] w3).setCell (p := ⟨T, 3, none⟩) (by simp) _
    have hB6 : Below w.heap.size w (w3.setCell ⟨T, 3, none⟩ (.slice A4 rs.length c4)) := (hB2.trans (hB3.mono hB2.size)).setCell (p := ⟨T, 3, none⟩) hwT _
    have HRSL := Lib.hid hrs
    have hwu := hB2.size
    clear x0 x1 x2 hOT hbT4 hbT3 hrs kg1
    go_wp2_with fail
    go_ret
    refine ⟨T, rfl, .mk (kv := .slice A4 rs.length c4) (bs := rs) ⟨⟨⟨#[]⟩, wv, by rw [HV.out]; exact hb6, by rw [HL.out], by rw [HV.out]; rfl⟩, OwnT.base hO6 (Nat.zero_le _), HRSL.out⟩ hwT (fun g' hg' => Nat.le_trans hwu (own_ge hO6 g' hg')) (fun i c' k' h1 h2 => ?_), hB6⟩
    exact ((hF i c' k' h1 h2).keep hk6 (fun x hx hm => by simp at hm; have := hx.1; omega)).mono fun x hx _ => Nat.le_trans hwu hx.1
theorem of_any (t : RX) (hc : Can t) (hl : t.lab = []) (A : Option Addr) (c : Nat) (w : World) (hR : Rd w A (prs t)) (hn : (prs t).length ≤ 1000) (hcap : (prs t).length ≤ c) (hz : ∀ p ∈ prs t, p.1.size ≤ 1000) :
    Calls Try.prog 26 #[.slice A (prs t).length c] w (OfPost t w) := by
  cases hv : t.val with
  | none => exact of_kids t hc hl hv A c w hR hn hcap hz
  | some wv => exact of_own t hc hl wv hv A c w hR hn hcap hz
end Go.Proofs.Ytchimfgbdfmegab
/- like: a node is the document's. -/
namespace Go.Proofs.Ytchimfgbdfmegab
open Go.RowKit Go.Lib
set_option linter.unusedVariables false
set_option maxRecDepth 100000
set_option linter.unnecessarySimpa false
set_option linter.unusedSimpArgs false
set_option linter.unnecessarySimpa false
set_option maxRecDepth 100000
/-- no node has many kids -/
inductive Few : RX → Prop
  | mk {t : RX} : t.kids.length ≤ 800 → (∀ k ∈ t.kids, Few k) → Few t
theorem Can.few : ∀ {t : RX}, Can t → Few t := by
  intro t
  induction t using RX.ind with
  | h t ih => exact fun hc => .mk (by have := kids_few hc; omega) fun k hk => ih k hk (hc.kids k hk)
theorem label_any (P : Nat → Prop) (b : Nat) (t : RX) (w : World) (h : RadW P w b t) : ∃ lab : ByteArray, lab.data.toList = t.lab ∧ ∀ W, Below w.heap.size w W → Calls Try.prog 16 #[at0 b] W fun e w' => e = .returned (.string lab) ∧ W = w' := by
  cases h with
  | mk h1 =>
    obtain ⟨o, lab, val, sh, e1, e2, hB, c0, c1, c2, c3, c4, c5⟩ := h1.cells
    refine ⟨lab, e1, fun W hW => ?_⟩
    have c1' := (hB.stay hW).cell 1
    simp only [List.getElem?_toArray, List.getElem?_cons_succ, List.getElem?_cons_zero] at c1'
    clear h1 hB e1 e2 c0 c1 c2 c3 c4 c5
    unfold at0
    go_enter Try.func16, Try.ntmps16
    go_wp2_with fail
    go_ret
    exact ⟨rfl, rfl⟩
theorem kids_any (base b : Nat) (t : RX) (kv : Value) (bs : List Nat) (w : World) (h : Nod base w b t kv bs) (hn : bs.length ≤ 900) : Calls Try.prog 15 #[at0 b] w (CloneK bs w) := by
  have kc := clone_kids base kv bs w h.row hn
  obtain ⟨o, lab, val, sh, e1, e2, hB, c0, c1, c2, c3, c4, c5⟩ := h.cells
  obtain ⟨A, n, c, rfl⟩ := h.row.form
  clear h hB e1 e2
  unfold at0
  go_enter Try.func15, Try.ntmps15
  go_wp2_with fail
  refine kc.mono ?_
  rintro e w' ⟨v, rfl, hO, hB2⟩
  obtain ⟨A', n', c', rfl⟩ := hO.form
  go_wp2_with fail
  go_ret
  exact ⟨_, rfl, hO, hB2⟩
theorem keepL {w w' : World} {g i r g2 : Nat} {x y z : Value} (h : w.cell? ⟨g, i, none⟩ = some x ∧ w.cell? ⟨r, 3, none⟩ = some y ∧ w.cell? ⟨g2, i, none⟩ = some z) (hb : Below w.heap.size w w') : w'.cell? ⟨g, i, none⟩ = some x ∧ w'.cell? ⟨r, 3, none⟩ = some y ∧ w'.cell? ⟨g2, i, none⟩ = some z :=
  ⟨(hb.cell (World.block_lt_of_cell? w _ h.1)).trans h.1, (hb.cell (World.block_lt_of_cell? w _ h.2.1)).trans h.2.1, (hb.cell (World.block_lt_of_cell? w _ h.2.2)).trans h.2.2⟩
set_option maxHeartbeats 2000000 in
theorem like_any : ∀ (t : RX), Few t → ∀ (P R : Nat → Prop) (b r : Nat) (w : World), RadW P w b t → RefW R w r t → Calls Try.prog 27 #[at0 b, at0 r] w fun e w' => e = .returned (.bool true) ∧ Below w.heap.size w w' := by
  intro t
  induction t using RX.ind with
  | h t ih =>
    intro hf P R b r w hw hr
    have hfk : ∀ k ∈ t.kids, Few k := by cases hf with | mk _ h => exact h
    have hfn : t.kids.length ≤ 800 := by cases hf with | mk h _ => exact h
    have kv1 := value_any P b t w hw
    obtain ⟨lab, hlab, kl⟩ := label_any P b t w hw
    have HIH := Lib.hid ih
    have HF := Lib.hid hfk
    cases hw with
    | @mk _ _ kv bs hN hPb hPk hK =>
    cases hr with
    | @mk _ _ kv2 rs hM hRb hRk hKr =>
    obtain ⟨lab2, val2, f1, f2, hBr, r0, r1, r2, r3⟩ := hM.cells
    obtain rfl : lab = lab2 := bytes_ext (by rw [hlab, f1])
    obtain ⟨A2, c2, hv2⟩ := hM.row.form
    have hMlen := hM.len
    have hNlen := hN.len
    have hbs : bs.length ≤ 800 := by omega
    have hrs : rs.length = bs.length := by omega
    have kk := fun W (hW : Below w.heap.size w W) => kids_any 0 b t kv bs W (hN.stay hW) (by omega)
    have HN := Lib.hid hN
    have HM := Lib.hid hM
    have HK := Lib.hid hK
    have HKR := Lib.hid hKr
    have HKK := Lib.hid kk
    have HKL := Lib.hid kl
    have HBR := Lib.hid hBr
    have HML := Lib.hid hMlen
    have HNL := Lib.hid hNlen
    subst hv2 f2
    rw [hrs] at r3 HBR HM
    have hrl := hBr.lt
    clear ih hf hfk hN hM hK hKr kk kl hBr hMlen hNlen hlab f1 r0 r1 r2 hPb hPk hRb hRk
    have HRS := Lib.hid hrs
    clear hrs
    cases hv : t.val with
    | some wv =>
      rw [hv] at kv1 HBR
      simp only [Option.getD_some, Option.getD_none, Option.isSome_some, Option.isSome_none] at kv1 HBR
      have hee : ((ByteArray.empty).toList == ([] : List UInt8)) = true := by rw [ByteArray.toList_eq]; rfl
      unfold at0 at kv1 ⊢
      go_enter Try.func27, Try.ntmps27
      go_wp2_with fail
      refine kv1.mono ?_
      rintro e w1 ⟨rfl, hB1⟩
      have kk1 := HKK.out w1 hB1
      unfold at0 at kk1
      clear kv1
      go_wp2_with fail
      refine kk1.mono ?_
      rintro e w2 ⟨v7, rfl, hO7, hB2⟩
      obtain ⟨A7, c7, hv7⟩ : ∃ A c, v7 = .slice A bs.length c := by
        rcases hO7.2 with ⟨e, h0⟩ | ⟨g', cap', cur', e, _⟩
        · exact ⟨none, 0, by rw [e, h0]⟩
        · exact ⟨_, _, e⟩
      subst hv7
      have hB12 := hB1.trans (hB2.mono hB1.size)
      have kl2 := fun n : Nat => HKL.out (w2.drewN n) (hB12.trans ((below_drewN w2 n).mono hB12.size))
      have kl3 := HKL.out w2 hB12
      unfold at0 at kl2 kl3
      obtain ⟨⟨b0, b1, b2, b3⟩, -⟩ := four (HBR.out.stay hB12)
      clear kk1 r3
      go_wp2_with fail
      go_quiet ((go_at_call 16; exact Calls.quiet_of (by first | exact kl3.mono (fun e w' h => ⟨h.1, 0, h.2 ▸ rfl⟩) | exact (kl2 _).mono (fun e w' h => ⟨h.1, 0, h.2 ▸ rfl⟩))))
      have hB13 : Below w.heap.size w (w2.drewN nq) := hB12.trans ((below_drewN w2 nq).mono hB12.size)
      have hO8 : OwnK w1.heap.size (w2.drewN nq) (.slice A7 bs.length c7) bs := hO7
      obtain ⟨b3', hb3'⟩ : ∃ u, (w2.drewN nq).cell? ⟨r, 3, none⟩ = some u := ⟨_, b3⟩
      have b34 : (w2.drewN nq).cell? ⟨r, 3, none⟩ = some (.slice A2 bs.length c2) := b3
      clear b0 b1 b2 b3 b3' hb3' kl2 kl3 hO7 hB12 hB1 hB2
      generalize hW3 : w2.drewN nq = W3 at *
      clear hW3
      obtain ⟨N, hNe⟩ : ∃ N, N = bs.length := ⟨_, rfl⟩
      have HNE := Lib.hid hNe
      have hN8 : N ≤ 800 := by omega
      rw [← hNe] at b34 hO8 ⊢
      clear hNe
      go_wp2_with fail
      go_loopw [66] (fun vi wr => ∃ j : Nat, j ≤ N ∧ vi = .int .i64 j ∧ Below W3.heap.size W3 wr) (fun vi wr => N - (intOf vi).toNat)
      case atStart => exact ⟨0, by omega, rfl, Below.refl _ _⟩
      case round =>
        obtain ⟨j, hj, rfl, hB⟩ := hrel
        by_cases hlt : j < N
        · have hjb : j < bs.length := by rw [← HNE.out]; exact hlt
          have hjk : j < t.kids.length := by rw [← HNL.out]; exact hjb
          have hjr : j < rs.length := by rw [HRS.out]; exact hjb
          obtain ⟨g7, q7, e7, d7⟩ := (hO8.stay hB).at_ j hjb
          obtain ⟨g2, q2, e2, d2⟩ := (HM.out.row.stay (hB13.trans (hB.mono hB13.size))).at_ j hjr
          simp only [Value.slice.injEq] at e7 e2
          obtain ⟨rfl, -, -⟩ := e7
          obtain ⟨rfl, -, -⟩ := e2
          have hbW := hB13.trans (hB.mono hB13.size)
          have hkb : bs[j]? = some (bs.getD j 0) := by rw [List.getD_eq_getElem?_getD, List.getElem?_eq_getElem hjb]; rfl
          have hrb : rs[j]? = some (rs.getD j 0) := by rw [List.getD_eq_getElem?_getD, List.getElem?_eq_getElem hjr]; rfl
          have hkm := rat_mem hjk
          have hi := fun W (hW : Below w.heap.size w W) => HIH.out _ hkm (HF.out _ hkm) P R _ _ W ((HK.out j _ _ hkb (rat_get hjk)).stay hW) ((HKR.out j _ _ hrb (rat_get hjk)).stay hW)
          have hid := hi _ hbW.drew
          generalize bs.getD j 0 = kb at *
          generalize rs.getD j 0 = rb at *
          have d3 := (hB.cell (World.block_lt_of_cell? _ _ b34)).trans b34
          have hjN : (j : Int) < (N : Int) := by omega
          have E3 : IntKind.i64.wrap ((j : Int) + 1) = ((j + 1 : Nat) : Int) := by rw [IntWalk.i64_in _ (by omega)]; omega
          have HB := Lib.hid hB
          unfold at0 at d7 d2 hid
          clear hi hkb hrb hkm hB hbW
          go_wp2_with fail
          go_region_held3 (fun w' : World => w'.cell? ⟨g7, j, none⟩ = some (.pointer (some ⟨kb, 0, none⟩)) ∧ w'.cell? ⟨r, 3, none⟩ = some (.slice (some ⟨g2, 0, none⟩) N c2) ∧ w'.cell? ⟨g2, j, none⟩ = some (.pointer (some ⟨rb, 0, none⟩))) (first | exact ⟨d7, d3, d2⟩ | exact keepL (by assumption) hBq | go_keep) (first
            | (go_at_call 27; refine hid.mono ?_; rintro e w5 ⟨rfl, hBq⟩))
          go_wp2_with fail
          exact ⟨⟨j + 1, by omega, by go_num, HB.out.trans ((show Below wr.heap.size wr w5 from (Below.refl _ wr).drew.trans hBq).mono HB.out.size)⟩, by simp [intOf]; omega⟩
        · have hjN : ¬ ((j : Int) < (N : Int)) := by omega
          go_wp2_with fail
          go_ret
          exact ⟨rfl, hB13.trans (hB.mono hB13.size)⟩
    | none =>
      rw [hv] at kv1 HBR
      simp only [Option.getD_some, Option.getD_none, Option.isSome_some, Option.isSome_none] at kv1 HBR
      have hee : ((ByteArray.empty).toList == ([] : List UInt8)) = true := by rw [ByteArray.toList_eq]; rfl
      unfold at0 at kv1 ⊢
      go_enter Try.func27, Try.ntmps27
      go_wp2_with fail
      refine kv1.mono ?_
      rintro e w1 ⟨rfl, hB1⟩
      have kk1 := HKK.out w1 hB1
      unfold at0 at kk1
      clear kv1
      go_wp2_with fail
      refine kk1.mono ?_
      rintro e w2 ⟨v7, rfl, hO7, hB2⟩
      obtain ⟨A7, c7, hv7⟩ : ∃ A c, v7 = .slice A bs.length c := by
        rcases hO7.2 with ⟨e, h0⟩ | ⟨g', cap', cur', e, _⟩
        · exact ⟨none, 0, by rw [e, h0]⟩
        · exact ⟨_, _, e⟩
      subst hv7
      have hB12 := hB1.trans (hB2.mono hB1.size)
      have kl2 := fun n : Nat => HKL.out (w2.drewN n) (hB12.trans ((below_drewN w2 n).mono hB12.size))
      have kl3 := HKL.out w2 hB12
      unfold at0 at kl2 kl3
      obtain ⟨⟨b0, b1, b2, b3⟩, -⟩ := four (HBR.out.stay hB12)
      clear kk1 r3
      go_wp2_with fail
      go_quiet ((go_at_call 16; exact Calls.quiet_of (by first | exact kl3.mono (fun e w' h => ⟨h.1, 0, h.2 ▸ rfl⟩) | exact (kl2 _).mono (fun e w' h => ⟨h.1, 0, h.2 ▸ rfl⟩))))
      have hB13 : Below w.heap.size w (w2.drewN nq) := hB12.trans ((below_drewN w2 nq).mono hB12.size)
      have hO8 : OwnK w1.heap.size (w2.drewN nq) (.slice A7 bs.length c7) bs := hO7
      obtain ⟨b3', hb3'⟩ : ∃ u, (w2.drewN nq).cell? ⟨r, 3, none⟩ = some u := ⟨_, b3⟩
      have b34 : (w2.drewN nq).cell? ⟨r, 3, none⟩ = some (.slice A2 bs.length c2) := b3
      clear b0 b1 b2 b3 b3' hb3' kl2 kl3 hO7 hB12 hB1 hB2
      generalize hW3 : w2.drewN nq = W3 at *
      clear hW3
      obtain ⟨N, hNe⟩ : ∃ N, N = bs.length := ⟨_, rfl⟩
      have HNE := Lib.hid hNe
      have hN8 : N ≤ 800 := by omega
      rw [← hNe] at b34 hO8 ⊢
      clear hNe
      go_wp2_with fail
      go_loopw [66] (fun vi wr => ∃ j : Nat, j ≤ N ∧ vi = .int .i64 j ∧ Below W3.heap.size W3 wr) (fun vi wr => N - (intOf vi).toNat)
      case atStart => exact ⟨0, by omega, rfl, Below.refl _ _⟩
      case round =>
        obtain ⟨j, hj, rfl, hB⟩ := hrel
        by_cases hlt : j < N
        · have hjb : j < bs.length := by rw [← HNE.out]; exact hlt
          have hjk : j < t.kids.length := by rw [← HNL.out]; exact hjb
          have hjr : j < rs.length := by rw [HRS.out]; exact hjb
          obtain ⟨g7, q7, e7, d7⟩ := (hO8.stay hB).at_ j hjb
          obtain ⟨g2, q2, e2, d2⟩ := (HM.out.row.stay (hB13.trans (hB.mono hB13.size))).at_ j hjr
          simp only [Value.slice.injEq] at e7 e2
          obtain ⟨rfl, -, -⟩ := e7
          obtain ⟨rfl, -, -⟩ := e2
          have hbW := hB13.trans (hB.mono hB13.size)
          have hkb : bs[j]? = some (bs.getD j 0) := by rw [List.getD_eq_getElem?_getD, List.getElem?_eq_getElem hjb]; rfl
          have hrb : rs[j]? = some (rs.getD j 0) := by rw [List.getD_eq_getElem?_getD, List.getElem?_eq_getElem hjr]; rfl
          have hkm := rat_mem hjk
          have hi := fun W (hW : Below w.heap.size w W) => HIH.out _ hkm (HF.out _ hkm) P R _ _ W ((HK.out j _ _ hkb (rat_get hjk)).stay hW) ((HKR.out j _ _ hrb (rat_get hjk)).stay hW)
          have hid := hi _ hbW.drew
          generalize bs.getD j 0 = kb at *
          generalize rs.getD j 0 = rb at *
          have d3 := (hB.cell (World.block_lt_of_cell? _ _ b34)).trans b34
          have hjN : (j : Int) < (N : Int) := by omega
          have E3 : IntKind.i64.wrap ((j : Int) + 1) = ((j + 1 : Nat) : Int) := by rw [IntWalk.i64_in _ (by omega)]; omega
          have HB := Lib.hid hB
          unfold at0 at d7 d2 hid
          clear hi hkb hrb hkm hB hbW
          go_wp2_with fail
          go_region_held3 (fun w' : World => w'.cell? ⟨g7, j, none⟩ = some (.pointer (some ⟨kb, 0, none⟩)) ∧ w'.cell? ⟨r, 3, none⟩ = some (.slice (some ⟨g2, 0, none⟩) N c2) ∧ w'.cell? ⟨g2, j, none⟩ = some (.pointer (some ⟨rb, 0, none⟩))) (first | exact ⟨d7, d3, d2⟩ | exact keepL (by assumption) hBq | go_keep) (first
            | (go_at_call 27; refine hid.mono ?_; rintro e w5 ⟨rfl, hBq⟩))
          go_wp2_with fail
          exact ⟨⟨j + 1, by omega, by go_num, HB.out.trans ((show Below wr.heap.size wr w5 from (Below.refl _ wr).drew.trans hBq).mono HB.out.size)⟩, by simp [intOf]; omega⟩
        · have hjN : ¬ ((j : Int) < (N : Int)) := by omega
          go_wp2_with fail
          go_ret
          exact ⟨rfl, hB13.trans (hB.mono hB13.size)⟩
end Go.Proofs.Ytchimfgbdfmegab
/- Len: the number of a tree's pairs. -/
namespace Go.Proofs.Ytchimfgbdfmegab
open Go.RowKit Go.Lib Go.Conc
set_option linter.unusedVariables false
set_option maxRecDepth 100000
set_option linter.unnecessarySimpa false
set_option linter.unusedSimpArgs false
set_option linter.unnecessarySimpa false
set_option maxRecDepth 100000
/-- how many pairs -/
def cn (t : RX) : Nat := (body t).length
mutual
def wt : RX → Nat
  | .node _ _ ks => 2 + wtL ks
def wtL : List RX → Nat
  | [] => 0
  | k :: ks => wt k + wtL ks
end
theorem wt_eq (t : RX) : wt t = 2 + wtL t.kids := by cases t; rw [wt]; rfl
theorem wtL_cons (k : RX) (ks : List RX) : wtL (k :: ks) = wt k + wtL ks := by rw [wtL]
/-- the sum of those that are counted -/
def sumD (l : List (Nat × Value)) : List (Nat × RX) → Nat
  | [] => 0
  | e :: es => (if (lookM l e.1).isSome then cn e.2 else 0) + sumD l es
def undn (l : List (Nat × Value)) (es : List (Nat × RX)) : List (Nat × RX) := es.filter fun e => (lookM l e.1).isNone
theorem sumD_append (l : List (Nat × Value)) (xs ys : List (Nat × RX)) : sumD l (xs ++ ys) = sumD l xs + sumD l ys := by
  induction xs with
  | nil => simp [sumD]
  | cons x xs ih => rw [List.cons_append, sumD, sumD, ih, Nat.add_assoc]
theorem undn_append (l : List (Nat × Value)) (xs ys : List (Nat × RX)) : undn l (xs ++ ys) = undn l xs ++ undn l ys := by unfold undn; rw [List.filter_append]
def cnL (ks : List RX) : Nat := (ks.map cn).sum
theorem bodyL_len (ks : List RX) : (bodyL ks).length = cnL ks := by
  induction ks with
  | nil => rfl
  | cons k ks ih => rw [bodyL, List.length_append, List.length_map, ih]; simp [cnL, cn]
theorem cn_eq (t : RX) : cn t = (vals t.val).length + cnL t.kids := by
  cases t with
  | node l v ks => unfold cn; rw [body_node, List.length_append, bodyL_len]; rfl
theorem cn_le : ∀ (ks : List RX) (k : RX), k ∈ ks → cn k ≤ cnL ks
  | [], _, h => by simp at h
  | x :: ks, k, h => by
    simp only [cnL, List.map_cons, List.sum_cons]
    rcases List.mem_cons.1 h with h | h
    · rw [h]; omega
    · have := cn_le ks k h
      unfold cnL at this
      omega
theorem sumD_le (l : List (Nat × Value)) (es : List (Nat × RX)) : sumD l es ≤ cnL (es.map (·.2)) := by
  induction es with
  | nil => simp [sumD, cnL]
  | cons e es ih =>
    rw [sumD]
    simp only [cnL, List.map_cons, List.sum_cons] at ih ⊢
    split <;> omega
theorem sumD_all {l : List (Nat × Value)} {es : List (Nat × RX)} (h : undn l es = []) : sumD l es = cnL (es.map (·.2)) := by
  induction es with
  | nil => simp [sumD, cnL]
  | cons e es ih =>
    unfold undn at h ih
    rw [List.filter_cons] at h
    split at h
    · cases h
    · rename_i hx
      have hs : (lookM l e.1).isSome = true := by cases hl : lookM l e.1 <;> simp [hl] at hx ⊢
      rw [sumD, if_pos hs, ih h]
      simp [cnL]
theorem wt_undn (l : List (Nat × Value)) (es : List (Nat × RX)) : wtL ((undn l es).map (·.2)) ≤ wtL (es.map (·.2)) := by
  induction es with
  | nil => simp [undn]
  | cons e es ih =>
    unfold undn at ih ⊢
    rw [List.filter_cons]
    split
    · rw [List.map_cons, List.map_cons, wtL_cons, wtL_cons]; omega
    · rw [List.map_cons, wtL_cons]; omega
/-- what waits: a node, its tree, whether its kids were laid above it -/
abbrev Ent3 := Nat × RX × Bool
def wg3 : List Ent3 → Nat
  | [] => 0
  | e :: r => (if e.2.2 then 1 else wt e.2.1) + wg3 r
theorem wg3_append (xs ys : List Ent3) : wg3 (xs ++ ys) = wg3 xs + wg3 ys := by
  induction xs with
  | nil => simp [wg3]
  | cons x xs ih => rw [List.cons_append, wg3, wg3, ih, Nat.add_assoc]
theorem wg3_new (es : List (Nat × RX)) : wg3 (es.map fun e => (e.1, e.2, false)) = wtL (es.map (·.2)) := by
  induction es with
  | nil => rfl
  | cons e es ih => rw [List.map_cons, wg3, ih, List.map_cons, wtL_cons]; rfl
theorem wg3_rev (xs : List Ent3) : wg3 xs.reverse = wg3 xs := by
  induction xs with
  | nil => rfl
  | cons x xs ih => rw [List.reverse_cons, wg3_append, ih, wg3]; simp [wg3]; omega
theorem wg3_len : ∀ xs : List Ent3, xs.length ≤ wg3 xs
  | [] => Nat.zero_le _
  | e :: xs => by
    have := wg3_len xs
    have := wt_eq e.2.1
    rw [wg3, List.length_cons]
    split <;> omega
theorem values_any (P : Nat → Prop) (b : Nat) (t : RX) (w : World) (h : RadW P w b t) : Calls Try.prog 33 #[at0 b] w fun e w' => e = .returned (.int .i64 ((vals t.val).length : Nat)) ∧ w = w' := by
  cases h with
  | mk h1 =>
    obtain ⟨o, lab, val, sh, e1, e2, hB, c0, c1, c2, c3, c4, c5⟩ := h1.cells
    clear h1 hB e1 e2
    unfold at0
    cases hv : t.val with
    | some y =>
      rw [hv] at c3
      simp only [Option.isSome_some] at c3
      go_enter Try.func33, Try.ntmps33
      go_wp2_with fail
      go_ret
      exact ⟨rfl, rfl⟩
    | none =>
      rw [hv] at c3
      simp only [Option.isSome_none] at c3
      go_enter Try.func33, Try.ntmps33
      go_wp2_with fail
      go_ret
      exact ⟨rfl, rfl⟩
theorem zero3 (w : World) : (zeroValue 3).run Try.prog w = .ok (.int .i64 0) w := by
  have h : (Try.prog.info? 3).map (·.zero) = some (some (.int .i64 0)) := by kernel_rfl
  obtain ⟨i, hi, hb⟩ := Option.map_eq_some_iff.1 h
  simp [zeroValue, typeInfo, hi, hb]
theorem run_makeMap131 (w : World) : (Instr.makeMap 35 none).run Try.prog w = .ok (.map (some w.heap.size)) (w.alloc (.map #[] 0)) := by
  simp [Instr.makeMap, Result.andThen]
/-- what has been counted -/
structure CntM (w : World) (l : List (Nat × Value)) : Prop where
  keys : ∀ p ∈ l, ∃ cs, Blk w p.1 51 cs
  vals : ∀ (b : Nat) (v : Value), lookM l b = some v → ∃ t, RadW (fun _ => True) w b t ∧ v = .int .i64 (cn t)
theorem CntM.look {w : World} {l : List (Nat × Value)} {b : Nat} {t : RX} (h : CntM w l) (hr : RadW (fun _ => True) w b t) : (lookM l b).getD (.int .i64 0) = .int .i64 ((if (lookM l b).isSome then cn t else 0 : Nat) : Int) := by
  cases hl : lookM l b with
  | none => rfl
  | some v =>
    obtain ⟨t', h1, h2⟩ := h.vals b v hl
    rw [h2, hr.same h1]
    simp
/-- kids of what is laid out are counted, or wait above it (the top comes first) -/
def Laid (w : World) (l : List (Nat × Value)) : List Nat → List Ent3 → Prop
  | _, [] => True
  | ab, e :: r => (e.2.2 = true → ∀ (kv : Value) (bs : List Nat), Nod 0 w e.1 e.2.1 kv bs → ∀ c ∈ bs, (lookM l c).isSome = true ∨ c ∈ ab) ∧ Laid w l (e.1 :: ab) r
theorem Laid.mono {w : World} {l l' : List (Nat × Value)} (hl : ∀ c, (lookM l c).isSome = true → (lookM l' c).isSome = true) : ∀ (st : List Ent3) (ab ab' : List Nat), (∀ c ∈ ab, (lookM l' c).isSome = true ∨ c ∈ ab') → Laid w l ab st → Laid w l' ab' st
  | [], _, _, _, _ => trivial
  | e :: r, ab, ab', h, hL => by
    refine ⟨fun hx kv bs hN c hc => ?_, Laid.mono hl r (e.1 :: ab) (e.1 :: ab') (fun c hc => ?_) hL.2⟩
    · rcases hL.1 hx kv bs hN c hc with h1 | h1
      · exact .inl (hl c h1)
      · exact h c h1
    · rcases List.mem_cons.1 hc with h1 | h1
      · exact .inr (by rw [h1]; simp)
      · rcases h c h1 with h2 | h2
        · exact .inl h2
        · exact .inr (by simp [h2])
theorem Laid.push {w : World} {l : List (Nat × Value)} (X : List Ent3) : ∀ (new : List Ent3) (ab : List Nat), (∀ e ∈ new, e.2.2 = false) → Laid w l (new.reverse.map (·.1) ++ ab) X → Laid w l ab (new ++ X)
  | [], ab, _, h => by simpa using h
  | e :: r, ab, hf, h => by
    refine ⟨fun hx => ?_, Laid.push X r (e.1 :: ab) (fun x hx => hf x (by simp [hx])) ?_⟩
    · rw [hf e (by simp)] at hx; cases hx
    · simpa using h
structure LenR (w : World) (M b0 : Nat) (st : List Ent3) (l : List (Nat × Value)) (v4 : Value) (wr : World) : Prop where
  tr : ∀ e ∈ st, RadW (fun _ => True) w e.1 e.2.1 ∧ cn e.2.1 ≤ 100000 ∧ Few e.2.1
  row : OwnK w.heap.size wr v4 (st.map (·.1)).reverse
  mp : PMap wr M l
  cm : CntM w l
  laid : Laid w l [] st
  root : (lookM l b0).isSome = true ∨ b0 ∈ st.map (·.1)
  bel : Below w.heap.size w wr
  wl : wg3 st ≤ 300000
theorem cell_one_newK (w : World) (c : Nat) : ∀ j u, (kcs [c])[j]? = some u → (w.alloc (.cells #[.pointer (some ⟨c, 0, none⟩)] 26)).cell? ((⟨w.heap.size, 0, none⟩ : Addr).add j) = some u := fun j u hu => by
  cases j with
  | succ j => simp [kcs] at hu
  | zero =>
    simp [kcs, at0] at hu
    subst hu
    rw [addr_at]
    exact (Blk.new w 26 #[.pointer (some ⟨c, 0, none⟩)]).cell 0
theorem RdK.one (w : World) (c : Nat) : RdK (w.alloc (.cells #[.pointer (some ⟨c, 0, none⟩)] 26)) (.slice (some ⟨w.heap.size, 0, none⟩) 1 1) [c] :=
  .inr ⟨⟨w.heap.size, 0, none⟩, 1, rfl, Nat.le_refl _, cell_one_newK w c⟩
theorem undn_nil {l : List (Nat × Value)} {es : List (Nat × RX)} (h : ∀ e ∈ es, (lookM l e.1).isSome = true) : undn l es = [] := by
  unfold undn
  rw [List.filter_eq_nil_iff]
  intro e he
  have := h e he
  cases hl : lookM l e.1 <;> simp [hl] at this ⊢
set_option maxHeartbeats 2000000 in
theorem len_any (b : Nat) (t : RX) (w : World) (h : RadW (fun _ => True) w b t) (hf : Few t) (hcn : cn t ≤ 100000) (hwt : wt t ≤ 300000) : Calls Try.prog 17 #[at0 b] w fun e w' => e = .returned (.int .i64 (cn t : Nat)) ∧ Below w.heap.size w w' := by
  have hB1 := (Below.refl _ w).alloc (Nat.le_refl _) (.map #[] 0)
  have hm0 : PMap (w.alloc (.map #[] 0)) w.heap.size [] := PMap.new w
  have hB2 := (Below.refl _ (w.alloc (.map #[] 0))).alloc (Nat.le_refl _) (.cells #[.pointer (some ⟨b, 0, none⟩)] 26)
  have hm1 : PMap ((w.alloc (.map #[] 0)).alloc (.cells #[.pointer (some ⟨b, 0, none⟩)] 26)) w.heap.size [] := hm0.below hB2
  have hB0 := hB1.trans (hB2.mono hB1.size)
  have hrow : OwnK w.heap.size ((w.alloc (.map #[] 0)).alloc (.cells #[.pointer (some ⟨b, 0, none⟩)] 26)) (.slice (some ⟨w.heap.size + 1, 0, none⟩) 1 1) [b] :=
    ⟨rfl, .inr ⟨w.heap.size + 1, 1, #[.pointer (some ⟨b, 0, none⟩)], rfl, Nat.le_succ _, by
      have := Blk.new (w.alloc (.map #[] 0)) 26 #[.pointer (some ⟨b, 0, none⟩)]
      have e : (w.alloc (.map #[] 0)).heap.size = w.heap.size + 1 := by simp
      rw [e] at this; exact this, Nat.le_refl _, by unfold maxLen; omega, rfl, rfl⟩⟩
  have HS := Lib.hid (⟨h, hcn, hf⟩ : RadW (fun _ => True) w b t ∧ cn t ≤ 100000 ∧ Few t)
  have HW := Lib.hid hwt
  obtain ⟨cs0, hb0⟩ : ∃ cs, Blk w b 51 cs := by
    cases h with
    | mk h1 => obtain ⟨o, lab, val, sh, hb, -⟩ := h1.blk; exact ⟨_, hb⟩
  have HB0 := Lib.hid hb0
  have hmk := run_makeMap131 w
  clear h hB1 hm0 hB2 hf hcn hwt hb0
  unfold at0
  go_enter Try.func17, Try.ntmps17
  go_upto_region 5 with (fail)
  generalize (w.alloc (.map #[] 0)).alloc (.cells #[.pointer (some ⟨b, 0, none⟩)] 26) = W at *
  obtain ⟨M, hM⟩ : ∃ M, M = w.heap.size := ⟨_, rfl⟩
  obtain ⟨N5, hN5⟩ : ∃ N5, N5 = w.heap.size + 1 := ⟨_, rfl⟩
  rw [← hN5] at hrow ⊢
  rw [← hM] at hm1 ⊢
  have hgM : w.heap.size ≤ M := by omega
  clear hM hN5 hmk
  go_loopw [4] (fun v4 wr => ∃ st l, LenR w M b st l v4 wr) (fun v4 wr => hgt fun m => ∃ st l, LenR w M b st l v4 wr ∧ wg3 st = m)
  case atStart => exact ⟨[(b, t, false)], [], fun e he => by rw [List.mem_singleton] at he; subst he; exact HS.out, hrow, hm1, ⟨fun _ h => by simp at h, fun _ _ h => by simp [lookM] at h⟩, ⟨fun h => by simp at h, trivial⟩, .inr (by simp), hB0, by simp [wg3]; exact HW.out⟩
  case round =>
    clear hrow hm1 hB0 HW
    obtain ⟨MM, hMM⟩ : ∃ MM, MM = hgt fun m => ∃ st l, LenR w M b st l u4 wr ∧ wg3 st = m := ⟨_, rfl⟩
    have hsp := hgt_spec (P := fun m => ∃ st l, LenR w M b st l u4 wr ∧ wg3 st = m) (by obtain ⟨st, l, h⟩ := hrel; exact ⟨_, st, l, h, rfl⟩)
    rw [← hMM] at hsp
    have HM := Lib.hid hMM
    clear hMM hrel
    obtain ⟨⟨st, l, hL, hwg⟩, -⟩ := hsp
    obtain ⟨hTr, hrow, hmp, hcm, hlaid, hroot, hB, hwl⟩ := hL
    obtain ⟨jj, hj, hjs⟩ := info101
    cases st with
    | nil =>
      obtain ⟨A, c, hu4⟩ : ∃ A c, u4 = .slice A 0 c := by
        rcases hrow.2 with ⟨e, h0⟩ | ⟨g', cap, cur, e, _⟩
        · exact ⟨none, 0, e⟩
        · exact ⟨_, _, e⟩
      have hr1 : (lookM l b).isSome = true := by simpa using hroot
      have hrun := PMap.look (P := Try.prog) hmp Try.underlying35 Try.underlying26 hj hjs (zero3 wr) (HB0.out.stay hB) (fun p hp => by obtain ⟨cs, h⟩ := hcm.keys p hp; exact ⟨_, _, h.stay hB⟩) false
      rw [hcm.look HS.out.1, hr1] at hrun
      simp only [if_true, Bool.false_eq_true, if_false] at hrun
      unfold at0 at hrun
      clear hTr hrow hmp HM hwg hroot hr1
      subst hu4
      go_wp2_with fail
      go_ret
      exact ⟨rfl, hB⟩
    | cons e r =>
      obtain ⟨eb, et, ex⟩ := e
      obtain ⟨hRW, hcnt, hfew⟩ := hTr (eb, et, ex) (by simp)
      simp only at hRW hcnt hfew
      obtain ⟨R, hR⟩ : ∃ R, R = (r.map (·.1)).reverse := ⟨_, rfl⟩
      have hrow2 : OwnK w.heap.size wr u4 (R ++ [eb]) := by
        rw [hR]
        simpa using hrow
      obtain ⟨g, cap, e4, hlt4, hcap, hc4⟩ := OwnK.atK hrow2 R.length eb (by simp)
      rw [List.length_append, List.length_singleton] at e4 hcap
      subst e4
      have hRl : R.length ≤ 300000 := by
        have := wg3_len ((eb, et, ex) :: r)
        rw [hR, List.length_reverse, List.length_map]
        rw [List.length_cons] at this
        omega
      obtain ⟨kv, bs, hN, hKd⟩ : ∃ kv bs, Nod 0 w eb et kv bs ∧ ∀ (i c : Nat) (k : RX), bs[i]? = some c → et.kids[i]? = some k → RadW (fun _ => True) w c k := by
        cases hRW with | mk a1 a2 a3 a4 => exact ⟨_, _, a1, a4⟩
      have hfk : ∀ k ∈ et.kids, Few k := by cases hfew with | mk _ h => exact h
      have hfn : et.kids.length ≤ 800 := by cases hfew with | mk h _ => exact h
      obtain ⟨A, c, hkv⟩ : ∃ A c, kv = .slice A bs.length c := by
        rcases hN.row.2 with ⟨e, h0⟩ | ⟨g, cap, cur, e, _⟩
        · exact ⟨none, 0, by rw [e, h0]⟩
        · exact ⟨_, _, e⟩
      subst hkv
      obtain ⟨o, lab, val, sh, e1, e2, hBn, d0, d1, d2, d3, d4, d5⟩ := (hN.stay hB).cells
      have kvl := values_any (fun _ => True) eb et wr (hRW.stay hB)
      have hlen := hN.len
      obtain ⟨es, hes⟩ : ∃ es, es = bs.zip et.kids := ⟨_, rfl⟩
      have hes1 : es.map (·.1) = bs := by rw [hes]; exact zip_fst _ _ hlen
      have hes2 : es.map (·.2) = et.kids := by rw [hes]; exact zip_snd _ _ hlen
      have hesl : es.length = bs.length := by rw [← hes1, List.length_map]
      have hesr : ∀ x ∈ es, RadW (fun _ => True) w x.1 x.2 ∧ Few x.2 ∧ cn x.2 ≤ 100000 := fun x hx => by
        obtain ⟨i, hi, he⟩ := List.mem_iff_getElem.1 hx
        subst hes
        rw [List.length_zip] at hi
        rw [List.getElem_zip] at he
        have hkm : et.kids[i]'(by omega) ∈ et.kids := List.getElem_mem _
        rw [← he]
        refine ⟨hKd i _ _ (List.getElem?_eq_getElem (by omega)) (List.getElem?_eq_getElem (by omega)), hfk _ hkm, ?_⟩
        have h1 := cn_eq et
        have h2 : cn (et.kids[i]'(by omega)) ≤ cnL et.kids := cn_le _ _ hkm
        show cn (et.kids[i]'(by omega)) ≤ 100000
        omega
      obtain ⟨N, hNe⟩ : ∃ N, N = bs.length := ⟨_, rfl⟩
      obtain ⟨VL, hVL⟩ : ∃ VL, VL = (vals et.val).length := ⟨_, rfl⟩
      obtain ⟨K, hK⟩ : ∃ K, K = R.length := ⟨_, rfl⟩
      obtain ⟨K1, hK1⟩ : ∃ K1, K1 = R.length + 1 := ⟨_, rfl⟩
      rw [← hK1] at hcap hrow2 HM ⊢
      rw [← hK] at hc4
      rw [← hNe] at d4
      rw [← hVL] at kvl
      have hVLc : VL + cnL et.kids = cn et := by rw [hVL]; exact (cn_eq et).symm
      have L1 : (0 : Int) < (K1 : Int) := by omega
      have L2 : IntKind.i64.wrap ((K1 : Int) - 1) = (K : Int) := by rw [IntWalk.i64_in _ (by omega)]; omega
      have L3 : (K : Int) < (K1 : Int) := by omega
      have hN8 : N ≤ 800 := by omega
      have hK3 : K ≤ 300000 := by omega
      have HNN := Lib.hid hN
      have HES1 := Lib.hid hes1
      have HES2 := Lib.hid hes2
      have HESL := Lib.hid (show es.length = N by omega)
      have HESR := Lib.hid hesr
      have HNE := Lib.hid hNe
      have HK := Lib.hid hK
      have HK1 := Lib.hid hK1
      have HR := Lib.hid hR
      have HVC := Lib.hid hVLc
      have HTR := Lib.hid (fun x (hx : x ∈ r) => hTr x (by simp [hx]))
      have HLD := Lib.hid hlaid
      have HRT := Lib.hid hroot
      have HCM := Lib.hid hcm
      have HTOP := Lib.hid (⟨hRW, hcnt, hfew⟩ : RadW (fun _ => True) w eb et ∧ cn et ≤ 100000 ∧ Few et)
      have Hwl := Lib.hid hwl
      have Hwg := Lib.hid hwg
      have hkB : ∀ W', Below w.heap.size w W' → ∀ p ∈ l, ∃ t c, Blk W' p.1 t c := fun W' hW' p hp => by obtain ⟨cs, h⟩ := hcm.keys p hp; exact ⟨_, _, h.stay hW'⟩
      have HKB := Lib.hid hkB
      have hsumle : ∀ j, VL + sumD l (es.take j) ≤ 200000 := fun j => by
        have h1 := sumD_le l (es.take j)
        have h2 := sumD_le l es
        have h3 : sumD l es = sumD l (es.take j) + sumD l (es.drop j) := by rw [← sumD_append, List.take_append_drop]
        rw [hes2] at h2
        omega
      have HSL := Lib.hid hsumle
      unfold at0 at hc4 kvl
      clear hrow hlt4 hN hKd hfk hfn hBn e1 e2 d0 d1 d2 d3 d5 hlen hes hes1 hes2 hesl hesr hNe hK hK1 hR hVL hVLc hTr hlaid hroot hcm hRW hcnt hfew hwl hwg hkB hRl hsumle
      go_wp2_with fail
      refine kvl.mono ?_
      rintro e' w' ⟨rfl, rfl⟩
      go_wp2_with fail
      go_loopw [4, 6, 7, 33] (fun v4 v6 v7 vi wq => ∃ j : Nat, j ≤ N ∧ vi = .int .i64 j ∧ v6 = .int .i64 (VL + sumD l (es.take j) : Nat) ∧ v7 = .bool (!(undn l (es.take j)).isEmpty) ∧ OwnK w.heap.size wq v4 (R ++ [eb] ++ (undn l (es.take j)).map (·.1)) ∧ PMap wq M l ∧ Below w.heap.size w wq) (fun v4 v6 v7 vi wq => N - (intOf vi).toNat)
      case atStart => exact ⟨0, by omega, rfl, by simp [sumD], by simp [undn], by simpa [undn, HK1.out] using hrow2, hmp, hB⟩
      case round =>
        clear hrow2 hmp hB
        obtain ⟨j, hj2, rfl, rfl, rfl, hO, hmp, hB⟩ := hrel
        by_cases hlt : j < N
        · have hjb : j < bs.length := by rw [← HNE.out]; exact hlt
          have hje : j < es.length := by rw [HESL.out]; exact hlt
          obtain ⟨ek, hek⟩ : ∃ ek, es[j]? = some ek := ⟨_, List.getElem?_eq_getElem hje⟩
          have hem : ek ∈ es := List.mem_of_getElem? hek
          have hbk : bs.getD j 0 = ek.1 := by
            rw [← HES1.out, List.getD_eq_getElem?_getD, List.getElem?_map, hek]; rfl
          obtain ⟨g2, q2, e2, c0⟩ := (HNN.out.row.stay hB).at_ j hjb
          simp only [Value.slice.injEq] at e2
          obtain ⟨rfl, -, -⟩ := e2
          rw [hbk] at c0
          have htk : es.take (j + 1) = es.take j ++ [ek] := by rw [List.take_add_one, hek]; rfl
          obtain ⟨hRk, hFk, hck⟩ := HESR.out ek hem
          obtain ⟨cs, hbl⟩ : ∃ cs, Blk wr ek.1 51 cs := by
            cases hRk with
            | mk h1 => obtain ⟨o, lab, val, sh, hb, -⟩ := h1.blk; exact ⟨_, hb.stay hB⟩
          have hrun := PMap.look (P := Try.prog) hmp Try.underlying35 Try.underlying26 hj hjs (zero3 wr) hbl (HKB.out wr hB) true
          rw [HCM.out.look hRk] at hrun
          simp only [if_true] at hrun
          have hsj := HSL.out (j + 1)
          have hS1 : sumD l (es.take (j + 1)) = sumD l (es.take j) + (if (lookM l ek.1).isSome then cn ek.2 else 0) := by rw [htk, sumD_append]; simp [sumD]
          have hU1 : undn l (es.take (j + 1)) = undn l (es.take j) ++ undn l [ek] := by rw [htk, undn_append]
          have hjN : (j : Int) < (N : Int) := by omega
          have E3 : IntKind.i64.wrap ((j : Int) + 1) = ((j + 1 : Nat) : Int) := by rw [IntWalk.i64_in _ (by omega)]; omega
          obtain ⟨X, hX⟩ : ∃ X, X = VL + sumD l (es.take j) := ⟨_, rfl⟩
          have hlu : (undn l (es.take j)).length ≤ 800 := by
            have h1 : (undn l (es.take j)).length ≤ (es.take j).length := List.length_filter_le _ _
            rw [List.length_take] at h1
            omega
          have HS1 := Lib.hid hS1
          have HU1 := Lib.hid hU1
          have HX := Lib.hid hX
          rw [← hX]
          unfold at0 at c0 hrun
          clear hek hem hbk htk hS1 hU1 hX hRk hFk hck d4
          cases hd : (lookM l ek.1).isSome with
          | true =>
            rw [hd] at hrun
            simp only [if_true] at hrun
            have HDD := Lib.hid hd
            obtain ⟨Y, hY⟩ : ∃ Y, Y = VL + sumD l (es.take (j + 1)) := ⟨_, rfl⟩
            have hYX : Y = X + cn ek.2 := by rw [hY, HS1.out, hd, HX.out]; simp; omega
            have E4 : IntKind.i64.wrap ((X : Int) + (cn ek.2 : Int)) = (Y : Int) := by rw [IntWalk.i64_in _ (by omega)]; omega
            have HY := Lib.hid hY
            clear hd hY hYX
            go_wp2_with fail
            have hu : undn l (es.take (j + 1)) = undn l (es.take j) := by
              rw [HU1.out]
              have : undn l [ek] = [] := undn_nil fun e he => by rw [List.mem_singleton] at he; rw [he]; exact HDD.out
              rw [this, List.append_nil]
            refine ⟨⟨j + 1, by omega, by go_num, by rw [← HY.out], by rw [hu], by rw [hu]; exact hO, hmp, hB⟩, by simp [intOf]; omega⟩
          | false =>
            rw [hd] at hrun
            simp only [Bool.false_eq_true, if_false] at hrun
            have HDD := Lib.hid hd
            obtain ⟨Y, hY⟩ : ∃ Y, Y = VL + sumD l (es.take (j + 1)) := ⟨_, rfl⟩
            have hYX : Y = X := by rw [hY, HS1.out, hd, HX.out]; simp
            have hXb := HSL.out j
            rw [← HX.out] at hXb
            have E4 : IntKind.i64.wrap ((X : Int) + 0) = (X : Int) := by rw [IntWalk.i64_in _ (by omega)]; omega
            have HY := Lib.hid (hY.symm.trans hYX)
            have hBa := (Below.refl _ wr).alloc (Nat.le_refl _) (.cells #[.pointer (some ⟨ek.1, 0, none⟩)] 26)
            have hOa := hO.stay hBa
            have hBb := hB.trans (hBa.mono hB.size)
            have hmpa := hmp.below hBa
            have hrd := RdK.one wr ek.1
            have hszb := hBb.size
            have hll : (R ++ [eb] ++ (undn l (es.take j)).map (·.1)).length ≤ 400000 := by
              rw [List.length_append, List.length_append, List.length_singleton, List.length_map, ← HK.out]; omega
            clear hd hY hYX hO hB hBa
            go_wp2_with (at_builtin; refine wpList_appK _ rfl _ _ rfl w.heap.size u4 (.slice (some ⟨wr.heap.size, 0, none⟩) 1 1) (R ++ [eb] ++ (undn l (es.take j)).map (·.1)) [ek.1] rfl rfl hOa hrd (by rw [List.length_singleton]; omega) hszb ?_; intro v6 w6 ho6 hg6)
            have hB6 : Below w.heap.size w w6 := hBb.grown hg6 hszb (own_ge hOa)
            have hmp6 : PMap w6 M l := hmpa.keep (X := u4.ownBlock.toList) ⟨⟨hg6.os, hg6.tape, hg6.output, hg6.size, fun i hi => by omega⟩, fun i hi hx => hg6.block i hi (fun e => hx (by rw [← e]; simp))⟩ (fun hm => own_ne hOa (fun cur => hmpa.notCells) (by simpa using hm))
            have hu : undn l (es.take (j + 1)) = undn l (es.take j) ++ [ek] := by
              rw [HU1.out]
              congr 1
              unfold undn
              have := HDD.out
              cases hq : lookM l ek.1 <;> simp [hq] at this ⊢
            refine ⟨⟨j + 1, by omega, by go_num, by rw [HY.out]; first | done | exact congrArg (Value.int IntKind.i64) (IntWalk.wrap64_in _ ⟨by omega, by omega⟩), by rw [hu]; simp, ?_, hmp6, hB6⟩, by simp [intOf]; omega⟩
            rw [hu, List.map_append, ← List.append_assoc]
            exact ho6
        · have hjN : ¬ ((j : Int) < (N : Int)) := by omega
          have hte : es.take j = es := List.take_of_length_le (by rw [HESL.out]; omega)
          rw [hte] at hO ⊢
          clear hte
          cases hU : undn l es with
          | nil =>
            rw [hU] at hO
            have hsum : VL + sumD l es = cn et := by rw [sumD_all hU, HES2.out]; exact HVC.out
            rw [hsum]
            simp only [List.isEmpty_nil, Bool.not_true]
            obtain ⟨C, hC⟩ : ∃ C, C = cn et := ⟨_, rfl⟩
            rw [← hC]
            have hO2 : OwnK w.heap.size wr u4 (R ++ [eb]) := by simpa using hO
            obtain ⟨g4, cap4, e4, -, hcap4, hc5⟩ := OwnK.atK hO2 R.length eb (by simp)
            rw [List.length_append, List.length_singleton, ← HK1.out] at e4 hcap4
            subst e4
            have hshort : OwnK w.heap.size wr (.slice (some ⟨g4, 0, none⟩) K cap4) R := by
              have h := hO2
              rw [HK1.out] at h
              rw [HK.out]
              exact h.shorter rfl
            obtain ⟨cs, hbl⟩ : ∃ cs, Blk wr eb 51 cs := by obtain ⟨o, lab, val, sh, hb, -⟩ := HNN.out.blk; exact ⟨_, hb.stay hB⟩
            obtain ⟨W4, hput, hset, hkeep, hsize⟩ := PMap.put (P := Try.prog) (v := .int .i64 C) hmp Try.underlying35 Try.underlying26 hj hjs hbl (HKB.out wr hB)
            have hB34 : Below w.heap.size wr W4 := hkeep.below hB.size (fun x hx => by rw [List.mem_singleton] at hx; rw [hx]; exact hgM)
            have hB4 := hB.trans hB34
            have hsh4 : OwnK w.heap.size W4 (.slice (some ⟨g4, 0, none⟩) K cap4) R := own_keep hshort hkeep (fun x hx => by rw [List.mem_singleton] at hx; rw [hx]; exact own_ne hshort (fun cur => hmp.notCells))
            have L4 : K ≤ cap4 := by omega
            have HU := Lib.hid hU
            have HC := Lib.hid hC
            unfold at0 at hput
            clear hO hO2 hc5 hshort hkeep hsize hsum hU hC hmp
            go_wp2_with fail
            have hlk := look_put l eb (.int .i64 C)
            have hgrow : ∀ c, (lookM l c).isSome = true → (lookM (putM l eb (.int .i64 C)) c).isSome = true := fun c hc => by
              rw [hlk]; split <;> simp [hc]
            have hfin : LenR w M b r (putM l eb (.int .i64 C)) (.slice (some ⟨g4, 0, none⟩) K cap4) W4 := by
              refine ⟨HTR.out, by rw [← HR.out]; exact hsh4, hset, ⟨fun p hp => ?_, fun b' v' hv => ?_⟩, ?_, ?_, hB4, ?_⟩
              · rcases putM_keys2 hp with h | h
                · rw [h]
                  obtain ⟨o, lab, val, sh, hb, -⟩ := HNN.out.blk
                  exact ⟨_, hb⟩
                · exact HCM.out.keys p h
              · rw [hlk] at hv
                split at hv
                · rename_i he
                  refine ⟨et, by rw [he]; exact HTOP.out.1, ?_⟩
                  rw [← Option.some.inj hv, HC.out]
                · exact HCM.out.vals b' v' hv
              · refine Laid.mono hgrow r [eb] [] (fun c hc => .inl ?_) HLD.out.2
                rw [List.mem_singleton] at hc
                rw [hc, hlk]; simp
              · rcases HRT.out with h | h
                · exact .inl (hgrow _ h)
                · simp only [List.map_cons, List.mem_cons] at h
                  rcases h with h | h
                  · left; rw [h, hlk]; simp
                  · exact .inr h
              · have := Hwl.out
                rw [wg3] at this
                omega
            refine ⟨⟨_, _, hfin⟩, ?_⟩
            rw [← HM.out]
            refine Nat.lt_of_le_of_lt ((hgt_spec (P := fun m => ∃ st l, LenR w M b st l (.slice (some ⟨g4, 0, none⟩) K cap4) W4 ∧ wg3 st = m) ⟨_, _, _, hfin, rfl⟩).2 _ ⟨_, _, hfin, rfl⟩) ?_
            rw [← Hwg.out, wg3]
            have := wt_eq et
            show wg3 r < (if ex then 1 else wt et) + wg3 r
            split <;> omega
          | cons u0 us =>
            have hUe : (undn l es).isEmpty = false := by rw [hU]; rfl
            rw [hU] at hUe
            rw [hUe]
            simp only [Bool.not_false]
            have hex : ex = false := by
              cases hx : ex with
              | false => rfl
              | true =>
                exfalso
                have h1 := HLD.out.1 hx _ _ HNN.out
                have : undn l es = [] := undn_nil fun x hx => by
                  rcases h1 x.1 (by rw [← HES1.out]; exact List.mem_map.2 ⟨x, hx, rfl⟩) with h | h
                  · exact h
                  · simp at h
                rw [this] at hU; cases hU
            have HU := Lib.hid hU
            have HEX := Lib.hid hex
            clear hUe hU hex
            go_wp2_with fail
            obtain ⟨new, hnew⟩ : ∃ new : List Ent3, new = ((undn l es).map fun e => (e.1, e.2, false)).reverse := ⟨_, rfl⟩
            have hnf : new.reverse.map (·.1) = (undn l es).map (·.1) := by rw [hnew, List.reverse_reverse, List.map_map]; rfl
            have hwn : wg3 new = wtL ((undn l es).map (·.2)) := by rw [hnew, wg3_rev, wg3_new]
            have hwu := wt_undn l es
            rw [HES2.out] at hwu
            have hwt := wt_eq et
            have hfin : LenR w M b (new ++ (eb, et, true) :: r) l u4 wr := by
              refine ⟨fun x hx => ?_, ?_, hmp, HCM.out, ?_, ?_, hB, ?_⟩
              · rcases List.mem_append.1 hx with h | h
                · rw [hnew, List.mem_reverse, List.mem_map] at h
                  obtain ⟨y, hy, rfl⟩ := h
                  have hy' : y ∈ es := (List.mem_filter.1 hy).1
                  obtain ⟨a1, a2, a3⟩ := HESR.out y hy'
                  exact ⟨a1, a3, a2⟩
                · rcases List.mem_cons.1 h with h | h
                  · rw [h]; exact HTOP.out
                  · exact HTR.out x h
              · rw [List.map_append, List.reverse_append, List.map_cons, List.reverse_cons, ← HR.out, ← List.map_reverse, hnf]
                exact hO
              · refine Laid.push _ new [] (fun x hx => ?_) ⟨fun _ kv' bs' hN' c' hc' => ?_, ?_⟩
                · rw [hnew, List.mem_reverse, List.mem_map] at hx
                  obtain ⟨y, -, rfl⟩ := hx
                  rfl
                · obtain ⟨-, -, -, rfl⟩ := HNN.out.same hN'
                  rw [← HES1.out, List.mem_map] at hc'
                  obtain ⟨y, hy, rfl⟩ := hc'
                  cases hq : lookM l y.1 with
                  | some v => left; simp [hq]
                  | none =>
                    right
                    rw [List.append_nil, hnf]
                    exact List.mem_map.2 ⟨y, List.mem_filter.2 ⟨hy, by simp [hq]⟩, rfl⟩
                · exact Laid.mono (fun _ h => h) r [eb] _ (fun c hc => .inr (by rw [List.mem_singleton] at hc; rw [hc]; simp)) HLD.out.2
              · rcases HRT.out with h | h
                · exact .inl h
                · right
                  rw [List.map_append, List.mem_append]
                  right
                  simpa using h
              · have h1 := Hwl.out
                rw [wg3_append, hwn, wg3]
                rw [wg3, HEX.out] at h1
                simp only [if_true, Bool.false_eq_true, if_false] at h1 ⊢
                omega
            refine ⟨⟨_, _, hfin⟩, ?_⟩
            rw [← HM.out]
            refine Nat.lt_of_le_of_lt ((hgt_spec (P := fun m => ∃ st l, LenR w M b st l u4 wr ∧ wg3 st = m) ⟨_, _, _, hfin, rfl⟩).2 _ ⟨_, _, hfin, rfl⟩) ?_
            rw [← Hwg.out, wg3_append, hwn, wg3, wg3, HEX.out]
            simp only [if_true, Bool.false_eq_true, if_false]
            omega
end Go.Proofs.Ytchimfgbdfmegab
