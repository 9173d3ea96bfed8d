/- Where a key stands in a rising list: the binary search of package slices, Find of package pair, Find of the reference. -/
import Derived.Test.YtimhdegdmdilaaaHad
import Derived.BigQuiet
import Derived.Deep.QuietTactic
import Derived.Deep.RegionHeld3
import Derived.Test.YtimhdegdmdilaaaHac
import Derived.Lib.Bytealg
import Derived.Laws.Externs
import Derived.WalkKit
import Derived.Lib.Hide
import Derived.Below
import Derived.Deep.Cut
import Derived.IntWalk
import Derived.Laws.StructEq
import Derived.Laws.Strings
import Derived.Laws.Cover1
import Derived.Test.YtimhdegdmdilaaaHab
import Derived.Deep.AppendLies
namespace Go.Proofs.Ytimhdegdmdilaaa
open Go.RowKit Go.Lib
set_option linter.unusedVariables false
set_option maxRecDepth 100000
set_option maxRecDepth 100000
set_option linter.unusedSimpArgs false
set_option linter.unnecessarySimpa false
/-- how many keys stand ahead of a key -/
def posK : List Pr → ByteArray → Nat
  | [], _ => 0
  | q :: r, k => if ltB q.1 k = true then posK r k + 1 else 0
/-- whether it is there -/
def isK (xs : List Pr) (k : ByteArray) : Bool := decide (posK xs k < xs.length ∧ (pat xs (posK xs k)).1 = k)
theorem posK_le (xs : List Pr) (k : ByteArray) : posK xs k ≤ xs.length := by
  induction xs with
  | nil => simp [posK]
  | cons q r ih => unfold posK; split <;> simp; exact ih
theorem pat_succ (q : Pr) (r : List Pr) (j : Nat) : pat (q :: r) (j + 1) = pat r j := by simp [pat]
theorem pat_zero (q : Pr) (r : List Pr) : pat (q :: r) 0 = q := by simp [pat]
theorem posK_lt (xs : List Pr) (k : ByteArray) (j : Nat) (h : j < posK xs k) : Lt (pat xs j).1 k := by
  induction xs generalizing j with
  | nil => simp [posK] at h
  | cons q r ih =>
    unfold posK at h
    split at h
    · rename_i hq
      cases j with
      | zero => rw [pat_zero]; exact (ltB_iff _ _).1 hq
      | succ j => rw [pat_succ]; exact ih j (by omega)
    · omega
theorem posK_not (xs : List Pr) (k : ByteArray) (h : posK xs k < xs.length) : ¬ Lt (pat xs (posK xs k)).1 k := by
  induction xs with
  | nil => simp at h
  | cons q r ih =>
    unfold posK at h ⊢
    split at h
    · rename_i hq
      rw [if_pos hq, pat_succ]
      exact ih (by simpa using h)
    · rename_i hq
      rw [if_neg hq, pat_zero]
      exact fun hl => hq ((ltB_iff _ _).2 hl)
theorem rises_at {xs : List Pr} (h : RisesL xs) {i j : Nat} (hij : i < j) (hj : j < xs.length) : Lt (pat xs i).1 (pat xs j).1 := by
  have := (List.pairwise_iff_getElem.1 h) i j (by omega) hj hij
  simpa [pat, hj, (by omega : i < xs.length)] using this
theorem posK_ge {xs : List Pr} (hr : RisesL xs) (k : ByteArray) (j : Nat) (h : posK xs k ≤ j) (hj : j < xs.length) : ¬ Lt (pat xs j).1 k := by
  rcases Nat.lt_or_eq_of_le h with h | h
  · exact fun hl => posK_not xs k (by omega) ((rises_at hr h hj).trans hl)
  · subst h; exact posK_not xs k hj
theorem isK_eq (xs : List Pr) (k : ByteArray) (h : posK xs k < xs.length) : isK xs k = (cmpS (pat xs (posK xs k)).1 k == 0) := by
  unfold isK
  by_cases e : (pat xs (posK xs k)).1 = k
  · rw [(cmpS_zero _ _).2 e]; simp [h, e]
  · have : cmpS (pat xs (posK xs k)).1 k ≠ 0 := fun h0 => e ((cmpS_zero _ _).1 h0)
    simp [e, this]
theorem isK_bytes (xs : List Pr) (k : ByteArray) (h : posK xs k < xs.length) : isK xs k = ((pat xs (posK xs k)).1.toList == k.toList) := by
  unfold isK
  by_cases e : (pat xs (posK xs k)).1 = k
  · simp [h, e]
  · have : (pat xs (posK xs k)).1.toList ≠ k.toList := fun h0 => e (bytes_ext (by rw [ByteArray.toList_eq, ByteArray.toList_eq] at h0; exact h0))
    simp [e, this]
theorem isK_end (xs : List Pr) (k : ByteArray) (h : ¬ posK xs k < xs.length) : isK xs k = false := by unfold isK; simp [h]
end Go.Proofs.Ytimhdegdmdilaaa
/- first, compare, place: where the child of a byte is. -/
namespace Go.Proofs.Ytimhdegdmdilaaa
open Go.RowKit Go.Lib
set_option linter.unusedVariables false
set_option maxRecDepth 100000
set_option linter.unusedSimpArgs false
set_option linter.unnecessarySimpa false
set_option maxRecDepth 100000
/-- the cells of a node -/
theorem Nod.cells {base : Nat} {w : World} {b : Nat} {t : RX} {kv : Value} {bs : List Nat} (h : Nod base w b t kv bs) : ∃ (o : Value) (lab val : ByteArray) (sh : Bool), lab.data.toList = t.lab ∧ val = t.val.getD ByteArray.empty ∧ Blk w b 132 #[o, .string lab, .string val, .bool t.val.isSome, kv, .bool sh] ∧
    (w.cell? ⟨b, 0, none⟩ = some o ∧ w.cell? ⟨b, 1, none⟩ = some (.string lab) ∧ w.cell? ⟨b, 2, none⟩ = some (.string val) ∧ w.cell? ⟨b, 3, none⟩ = some (.bool t.val.isSome) ∧ w.cell? ⟨b, 4, none⟩ = some kv ∧ w.cell? ⟨b, 5, none⟩ = some (.bool sh)) := by
  obtain ⟨o, lab, val, sh, hB, h1, h2⟩ := h.blk
  exact ⟨o, lab, val, sh, h1, h2, hB, hB.cell 0, hB.cell 1, hB.cell 2, hB.cell 3, hB.cell 4, hB.cell 5⟩
/-- the first byte as the program counts it -/
theorem first_any (P : Nat → Prop) (b : Nat) (t : RX) (w : World) (h : RadW P w b t) (hs : t.lab.length ≤ 1000) : Calls Try.prog 112 #[at0 b] w fun e w' => e = .returned (.int .i64 ((fst? t : Int) - 1)) ∧ w = w' := by
  cases h with
  | mk h1 =>
    obtain ⟨o, lab, val, sh, e1, e2, hB, c0, c1, c2, c3, c4, c5⟩ := h1.cells
    clear h1 hB
    unfold at0
    have hL : lab.size = t.lab.length := by rw [← e1, Array.length_toList]; rfl
    by_cases h0 : t.lab = []
    · have hz : lab = ByteArray.empty := bytes_ext (by rw [e1, h0]; rfl)
      have hf : fst? t = 0 := by unfold fst?; rw [h0]
      subst hz
      rw [hf]
      go_enter Try.func112, Try.ntmps112
      go_wp2_with fail
      go_ret
      exact ⟨rfl, rfl⟩
    · obtain ⟨a, r, hl⟩ := List.exists_cons_of_ne_nil h0
      have hz : (lab.toList == ([] : List UInt8)) = false := by
        have : lab.toList ≠ [] := fun e => h0 (by rw [← e1, ← ByteArray.toList_eq, e])
        simpa using this
      have hf : (fst? t : Int) - 1 = a.toNat := by rw [fst_cons hl]; omega
      have hpos : (0 : Int) < (lab.size : Int) := by rw [hL, hl]; simp only [List.length_cons]; omega
      have hget : lab[0]'(by omega) = a := by
        have : lab.data.toList[0]? = some a := by rw [e1, hl]; rfl
        rw [List.getElem?_eq_some_iff] at this
        exact this.2
      rw [hf]
      clear hf
      go_enter Try.func112, Try.ntmps112
      go_wp2_with fail
      go_ret
      refine ⟨?_, rfl⟩
      show Ending.returned (.int .i64 (wrap64 (a.toNat : Int))) = _
      have ha := a.toNat_lt
      rw [IntWalk.wrap64_in _ ⟨by omega, by omega⟩]
theorem isnan_any (x : Int) (w : World) : Calls Try.prog 118 #[.int .i64 x] w fun e w' => e = .returned (.bool false) ∧ w = w' := by
  go_enter Try.func118, Try.ntmps118
  go_wp2_with fail
  go_ret
  simp
def cmpI (x y : Int) : Int := if x < y then -1 else if y < x then 1 else 0
theorem compareI (x y : Int) (w : World) : Calls Try.prog 111 #[.int .i64 x, .int .i64 y] w fun e w' => e = .returned (.int .i64 (cmpI x y)) ∧ w = w' := by
  unfold cmpI
  by_cases h1 : x < y
  · rw [if_pos h1]
    go_enter Try.func111, Try.ntmps111
    go_wp2_with fail
    refine (isnan_any x _).mono ?_
    rintro e w' ⟨rfl, rfl⟩
    go_wp2_with fail
    refine (isnan_any y _).mono ?_
    rintro e w' ⟨rfl, rfl⟩
    go_wp2_with fail
    go_ret
    exact ⟨rfl, rfl⟩
  · rw [if_neg h1]
    by_cases h2 : y < x
    · rw [if_pos h2]
      go_enter Try.func111, Try.ntmps111
      go_wp2_with fail
      refine (isnan_any x _).mono ?_
      rintro e w' ⟨rfl, rfl⟩
      go_wp2_with fail
      refine (isnan_any y _).mono ?_
      rintro e w' ⟨rfl, rfl⟩
      go_wp2_with fail
      go_ret
      exact ⟨rfl, rfl⟩
    · rw [if_neg h2]
      go_enter Try.func111, Try.ntmps111
      go_wp2_with fail
      refine (isnan_any x _).mono ?_
      rintro e w' ⟨rfl, rfl⟩
      go_wp2_with fail
      refine (isnan_any y _).mono ?_
      rintro e w' ⟨rfl, rfl⟩
      go_wp2_with fail
      go_ret
      exact ⟨rfl, rfl⟩
theorem closure_any (P : Nat → Prop) (b : Nat) (t : RX) (y : Int) (w : World) (h : RadW P w b t) (hs : t.lab.length ≤ 1000) : Calls Try.prog 110 #[at0 b, .int .i64 y] w fun e w' => e = .returned (.int .i64 (cmpI ((fst? t : Int) - 1) y)) ∧ w = w' := by
  have k := first_any P b t w h hs
  clear h
  go_enter Try.func110, Try.ntmps110
  go_wp2_with fail
  refine k.mono ?_
  rintro e w' ⟨rfl, rfl⟩
  go_wp2_with fail
  refine (compareI _ _ _).mono ?_
  rintro e w' ⟨rfl, rfl⟩
  go_wp2_with fail
  go_ret
  exact ⟨rfl, rfl⟩
/-- how many kids come ahead of a byte's -/
def posR : List RX → Nat → Nat
  | [], _ => 0
  | k :: ks, n => if fst? k < n then posR ks n + 1 else 0
def rat (ks : List RX) (j : Nat) : RX := ks.getD j (.node [] none [])
theorem rat_get {ks : List RX} {j : Nat} (h : j < ks.length) : ks[j]? = some (rat ks j) := by
  unfold rat; rw [List.getD_eq_getElem?_getD, List.getElem?_eq_getElem h]; rfl
def isR (ks : List RX) (n : Nat) : Bool := decide (posR ks n < ks.length ∧ fst? (rat ks (posR ks n)) = n)
theorem posR_le (ks : List RX) (n : Nat) : posR ks n ≤ ks.length := by
  induction ks with
  | nil => simp [posR]
  | cons k ks ih => simp only [posR]; split <;> simp <;> omega
theorem posR_lt (ks : List RX) (n j : Nat) (h : j < posR ks n) : fst? (rat ks j) < n := by
  induction ks generalizing j with
  | nil => simp [posR] at h
  | cons k ks ih =>
    simp only [posR] at h
    split at h
    · cases j with
      | zero => simpa [rat]
      | succ j => simpa [rat] using ih j (by omega)
    · omega
theorem posR_not (ks : List RX) (n : Nat) (h : posR ks n < ks.length) : ¬ fst? (rat ks (posR ks n)) < n := by
  induction ks with
  | nil => simp at h
  | cons k ks ih =>
    simp only [posR] at h ⊢
    split
    · rename_i hlt
      rw [if_pos hlt] at h
      simpa [rat] using ih (by simpa using h)
    · rename_i hlt; simpa [rat] using hlt
theorem posR_ge {ks : List RX} (hr : ks.Pairwise (fun a b => fst? a < fst? b)) (n j : Nat) (h : posR ks n ≤ j) (hj : j < ks.length) : ¬ fst? (rat ks j) < n := by
  have h0 := posR_not ks n (by omega)
  rcases Nat.lt_or_eq_of_le h with h | h
  · have h1 := rat_get (ks := ks) (show posR ks n < ks.length by omega)
    have h2 := rat_get hj
    rw [List.pairwise_iff_getElem] at hr
    have := hr _ _ (by omega) hj h
    rw [List.getElem?_eq_some_iff] at h1 h2
    obtain ⟨_, h1⟩ := h1
    obtain ⟨_, h2⟩ := h2
    rw [h1, h2] at this
    omega
  · rw [← h]; exact h0
def fn83 : Value := .func (.func 110) #[] #[]
/-- the cells of a row of children -/
theorem OwnK.at_ {w : World} {base : Nat} {kv : Value} {bs : List Nat} (h : OwnK base w kv bs) (j : Nat) (hj : j < bs.length) : ∃ g c, kv = .slice (some ⟨g, 0, none⟩) bs.length c ∧ w.cell? ⟨g, j, none⟩ = some (at0 (bs.getD j 0)) := by
  obtain ⟨g, cap, cur, e, -⟩ := own_blk h (by omega)
  subst e
  refine ⟨g, cap, rfl, ?_⟩
  have := World.ownsRow.cellAt h j (by omega)
  rw [this]
  unfold kcs
  rw [List.getElem?_map, List.getElem?_eq_getElem hj, List.getD_eq_getElem?_getD, List.getElem?_eq_getElem hj]; rfl
theorem OwnK.stay {base : Nat} {w w' : World} {v : Value} {xs : List Nat} (h : OwnK base w v xs) (hb : Below w.heap.size w w') : OwnK base w' v xs := own_keep h (Keep.of_below (X := []) hb) (by simp)
set_option maxHeartbeats 8000000 in
theorem bsearchK (P : Nat → Prop) (base : Nat) (kv : Value) (bs : List Nat) (ks : List RX) (x : Nat) (w : World) (hO : OwnK base w kv bs) (hl : bs.length = ks.length) (hk : ∀ (i c : Nat) (k : RX), bs[i]? = some c → ks[i]? = some k → RadW P w c k)
    (hn : ks.length ≤ 1000) (hr : ks.Pairwise (fun a b => fst? a < fst? b)) (hs : ∀ k ∈ ks, k.lab.length ≤ 1000) (hx : x ≤ 256) :
    Calls Try.prog 109 #[kv, .int .i64 x, fn83] w fun e w' => e = .returned (.tuple #[.int .i64 (posR ks (x + 1)), .bool (isR ks (x + 1))]) ∧ Below w.heap.size w w' := by
  obtain ⟨N, hN⟩ : ∃ N, N = ks.length := ⟨_, rfl⟩
  obtain ⟨Q, hQ⟩ : ∃ Q, Q = posR ks (x + 1) := ⟨_, rfl⟩
  have hQN : Q ≤ N := by rw [hQ, hN]; exact posR_le _ _
  obtain ⟨A, c, hkv⟩ : ∃ A c, kv = .slice A N c := by
    rcases hO.2 with ⟨e, h0⟩ | ⟨g, cap, cur, e, _⟩
    · exact ⟨none, 0, by rw [e, hN, ← hl, h0]⟩
    · exact ⟨_, _, by rw [e, hN, hl]⟩
  subst hkv
  rw [← hQ]
  have hn' : N ≤ 1000 := by omega
  have HN := Lib.hid hN
  have HQ := Lib.hid hQ
  have HO := Lib.hid hO
  have HK := Lib.hid hk
  have HS := Lib.hid hr
  have HL := Lib.hid hs
  have HB := Lib.hid hl
  have hcall : ∀ j, j < N → ∀ wr, Below w.heap.size w wr → (∃ g c, A = some ⟨g, 0, none⟩ ∧ wr.cell? ⟨g, j, none⟩ = some (at0 (bs.getD j 0))) ∧ Calls Try.prog 110 #[at0 (bs.getD j 0), .int .i64 x] wr fun e w' => e = .returned (.int .i64 (cmpI ((fst? (rat ks j) : Int) - 1) x)) ∧ wr = w' := fun j hj wr hB => by
    have hjb : j < bs.length := by rw [hl, ← hN]; exact hj
    obtain ⟨g, c, e, h⟩ := (hO.stay hB).at_ j hjb
    refine ⟨⟨g, c, by simpa using congrArg (fun v : Value => match v with | .slice a _ _ => a | _ => none) e, h⟩, ?_⟩
    have hb2 : bs[j]? = some (bs.getD j 0) := by rw [List.getD_eq_getElem?_getD, List.getElem?_eq_getElem hjb]; rfl
    have hk2 := rat_get (ks := ks) (j := j) (by omega)
    exact closure_any P _ _ _ _ ((hk j _ _ hb2 hk2).stay hB) (hs _ (List.mem_of_getElem? hk2))
  clear hN hQ hO hk hr hs hl hn
  unfold fn83
  go_enter Try.func109, Try.ntmps109
  go_wp2_with fail
  go_loopw [9, 10] (fun vi vj wr => ∃ (i j : Nat), vi = .int .i64 i ∧ vj = .int .i64 j ∧ i ≤ Q ∧ Q ≤ j ∧ j ≤ N ∧ Below w.heap.size w wr) (fun vi vj wr => (intOf vj).toNat - (intOf vi).toNat)
  case atStart => exact ⟨0, N, rfl, rfl, Nat.zero_le _, hQN, Nat.le_refl _, Below.refl _ _⟩
  case round =>
    obtain ⟨i, j, rfl, rfl, hi, hij, hj, hB⟩ := hrel
    by_cases hlt : i < j
    · obtain ⟨h, hh⟩ : ∃ h, h = (i + j) / 2 := ⟨_, rfl⟩
      have B1 : i ≤ h ∧ h < j := by omega
      have E1 : IntKind.i64.wrap ((i : Int) + (j : Int)) = (i : Int) + (j : Int) := IntWalk.i64_in _ (by omega)
      have E2 : ((i : Int) + (j : Int)) / 2 = (h : Int) := by omega
      have E3 : IntKind.i64.wrap ((h : Int) + 1) = ((h + 1 : Nat) : Int) := by rw [IntWalk.i64_in _ (by omega)]; omega
      clear hh
      obtain ⟨⟨g, c', rfl, c0⟩, hc⟩ := hcall h (by omega) _ hB
      unfold at0 at c0
      have B2 : (h : Int) < (N : Int) := by omega
      have hge := posR_ge HS.out (x + 1) h
      have hlt' := posR_lt ks (x + 1) h
      rw [← HQ.out] at hge hlt'
      rw [← HN.out] at hge
      unfold at0 at hc
      generalize fst? (rat ks h) = F at *
      generalize bs.getD h 0 = kb at *
      clear hcall
      by_cases hcmp : F < x + 1
      · have S : h + 1 ≤ Q := by
          rcases Nat.lt_or_ge h Q with q | q
          · exact q
          · exact absurd hcmp (hge q (by omega))
        have hcv : cmpI ((F : Int) - 1) x = -1 := by unfold cmpI; rw [if_pos (by omega)]
        rw [hcv] at hc
        clear hge hlt' hcv
        go_wp2_with fail
        refine hc.mono ?_
        rintro e w1 ⟨rfl, rfl⟩
        go_wp2_with fail
        refine ⟨⟨h + 1, j, by go_num, rfl, S, hij, hj, hB⟩, ?_⟩
        simp [intOf]; omega
      · have S : Q ≤ h := by
          rcases Nat.lt_or_ge h Q with q | q
          · exact absurd (hlt' q) hcmp
          · exact q
        have hcv : ¬ (cmpI ((F : Int) - 1) x < 0) := by
          unfold cmpI
          rw [if_neg (by omega)]
          split <;> omega
        clear hge hlt'
        generalize cmpI ((F : Int) - 1) x = cv at *
        go_wp2_with fail
        refine hc.mono ?_
        rintro e w1 ⟨rfl, rfl⟩
        go_wp2_with fail
        refine ⟨⟨i, h, rfl, rfl, hi, S, by omega, hB⟩, ?_⟩
        simp [intOf]; omega
    · obtain rfl : i = Q := by omega
      by_cases hend : i < N
      · obtain ⟨⟨g, c', rfl, c0⟩, hc⟩ := hcall i hend _ hB
        unfold at0 at c0
        have B2 : (i : Int) < (N : Int) := by omega
        have HI := Lib.hid (show isR ks (x + 1) = (cmpI ((fst? (rat ks i) : Int) - 1) x == 0) by
          have hq := posR_not ks (x + 1)
          unfold isR
          rw [← HQ.out, ← HN.out] at *
          have := hq hend
          unfold cmpI
          by_cases e : fst? (rat ks i) = x + 1
          · simp [e, hend]
          · have h1 : ¬ ((fst? (rat ks i) : Int) - 1 < x) := by omega
            have h2 : (x : Int) < (fst? (rat ks i) : Int) - 1 := by omega
            simp [e, h1, h2])
        unfold at0 at hc
        clear hcall
        generalize fst? (rat ks i) = F at *
        generalize bs.getD i 0 = kb at *
        generalize cmpI ((F : Int) - 1) x = cv at *
        go_wp2_with fail
        refine hc.mono ?_
        rintro e w1 ⟨rfl, rfl⟩
        go_wp2_with fail
        go_ret2
        rw [HI.out]
        exact ⟨rfl, hB⟩
      · have HI := Lib.hid (show isR ks (x + 1) = false by unfold isR; rw [← HQ.out, ← HN.out]; simp [hend])
        have B2 : ¬ ((i : Int) < (N : Int)) := by omega
        clear hcall
        go_wp2_with fail
        go_ret2
        rw [HI.out]
        exact ⟨rfl, hB⟩
/-- where the child is whose label begins with a byte -/
theorem place_any (P : Nat → Prop) (base b : Nat) (t : RX) (kv : Value) (bs : List Nat) (x : UInt8) (w : World) (h : Nod base w b t kv bs) (hk : ∀ (i c : Nat) (k : RX), bs[i]? = some c → t.kids[i]? = some k → RadW P w c k)
    (hc : Can t) (hs : ∀ k ∈ t.kids, k.lab.length ≤ 1000) :
    Calls Try.prog 95 #[at0 b, .int .u8 x.toNat] w fun e w' => e = .returned (.tuple #[.int .i64 (posR t.kids (x.toNat + 1)), .bool (isR t.kids (x.toNat + 1))]) ∧ Below w.heap.size w w' := by
  have hx := x.toNat_lt
  have k := bsearchK P base kv bs t.kids x.toNat w h.row h.len hk (by have := kids_few hc; omega) hc.rises hs (by omega)
  obtain ⟨o, lab, val, sh, e1, e2, hB, c0, c1, c2, c3, c4, c5⟩ := h.cells
  obtain ⟨A, n, c, hkv⟩ : ∃ A n c, kv = .slice A n c := by
    rcases h.row.2 with ⟨e, _⟩ | ⟨g, cap, cur, e, _⟩
    · exact ⟨_, _, _, e⟩
    · exact ⟨_, _, _, e⟩
  subst hkv
  have hw : IntKind.i64.wrap (x.toNat : Int) = x.toNat := IntWalk.i64_in _ (by omega)
  clear h hB hk hc hs e1 e2
  generalize posR t.kids (x.toNat + 1) = Q at *
  generalize isR t.kids (x.toNat + 1) = I at *
  generalize x.toNat = X at *
  unfold fn83 at k
  unfold at0
  go_enter Try.func95, Try.ntmps95
  go_wp2_with fail
  refine k.mono ?_
  rintro e w' ⟨rfl, hB⟩
  go_wp2_with fail
  go_ret2
  exact ⟨rfl, hB⟩
end Go.Proofs.Ytimhdegdmdilaaa
/- Of a change: new nodes, whose a node is, and the node that is changed. -/
namespace Go.Proofs.Ytimhdegdmdilaaa
open Go.RowKit Go.Lib
set_option linter.unusedVariables false
set_option maxRecDepth 100000
set_option linter.unusedSimpArgs false
set_option linter.unnecessarySimpa false
set_option maxRecDepth 100000
theorem DeadT.stay {base : Nat} {w w' : World} {v : Value} (h : DeadT base w v) (hb : Below w.heap.size w w') : DeadT base w' v := by
  rcases h with h | ⟨t, p, id, h1, h2, h3⟩
  · exact .inl h
  · exact .inr ⟨t, p, id, h1, h2.keep (Keep.of_below (X := []) hb) (by simp), h3⟩
def freshN (lab : ByteArray) : Array Value := #[.pointer none, .string lab, .string ⟨#[]⟩, .bool false, .slice none 0 0, .bool false]
theorem leaf_any (base : Nat) (tv : Value) (lab : ByteArray) (w : World) (hd : DeadT base w tv) : Calls Try.prog 84 #[.agg #[tv], .string lab] w fun e w' => ∃ b, e = .returned (at0 b) ∧ w.heap.size ≤ b ∧ Blk w' b 132 (freshN lab) ∧ Below w.heap.size w w' := by
  obtain ⟨a, rfl⟩ := hd.form
  have hB1 := (Below.refl _ w).alloc (Nat.le_refl _) (.cells #[.pointer a] 126)
  have hb := Blk.new w 126 #[.pointer a]
  have hB2 := hB1.alloc hB1.size (.cells (freshN lab) 132)
  have hN := Blk.new (w.alloc (.cells #[.pointer a] 126)) 132 (freshN lab)
  have hb2 := hb.alloc (.cells (freshN lab) 132)
  have hk := (hd.stay hB2).live
  have hsz : (w.alloc (.cells #[.pointer a] 126)).heap.size = w.heap.size + 1 := by simp
  rw [hsz] at hN
  clear hsz hb hB1
  unfold freshN at hk hb2 hN hB2
  go_enter Try.func84, Try.ntmps84
  go_wp2_with fail
  refine hk.mono ?_
  rintro e w' ⟨rfl, rfl⟩
  go_wp2_with fail
  go_ret
  exact ⟨_, rfl, by omega, hN, hB2⟩
theorem Nod.fresh {base : Nat} {w : World} {b : Nat} {lab : ByteArray} (h : Blk w b 132 (freshN lab)) : Nod base w b (.node lab.data.toList none []) (.slice none 0 0) [] :=
  ⟨⟨.pointer none, lab, ⟨#[]⟩, false, h, rfl, rfl⟩, World.ownsRow_nil _ _ _ _, rfl⟩
theorem MineW.fresh {P : Nat → Prop} {base : Nat} {w : World} {b : Nat} {lab : ByteArray} (h : Blk w b 132 (freshN lab)) (hb : base ≤ b) : MineW P base w b (.node lab.data.toList none []) :=
  ⟨_, _, Nod.fresh h, hb, fun i c k hc => by simp at hc⟩
theorem neq_nil (b : Nat) (w : World) : True := trivial
/-- no node is a dead token's -/
theorem owned_dead (base b : Nat) (tv : Value) (w : World) (hd : DeadT base w tv) : Calls Try.prog 85 #[at0 b, tv] w fun e w' => e = .returned (.bool false) ∧ w = w' := by
  obtain ⟨a, rfl⟩ := hd.form
  have hk := hd.live
  unfold at0
  go_enter Try.func85, Try.ntmps85
  go_wp2_with fail
  refine hk.mono ?_
  rintro e w' ⟨rfl, rfl⟩
  go_wp2_with fail
  go_ret
  exact ⟨rfl, rfl⟩
theorem inside_dead (base base' b k : Nat) (t : RX) (kv tv : Value) (bs : List Nat) (w : World) (hd : DeadT base w tv) (h : Nod base' w b t kv bs) : Calls Try.prog 101 #[.agg #[tv], at0 b, at0 k] w fun e w' => e = .returned (.bool false) ∧ Below w.heap.size w w' := by
  obtain ⟨a, rfl⟩ := hd.form
  have hB1 := (Below.refl _ w).alloc (Nat.le_refl _) (.cells #[.pointer a] 126)
  have hk := owned_dead base k (.pointer a) _ (hd.stay hB1)
  have h1 := h.keep (Keep.of_below (X := []) hB1) (by simp) (by simp)
  obtain ⟨o, lab, val, sh, e1, e2, hB, c0, c1, c2, c3, c4, c5⟩ := h1.cells
  clear h h1 hB
  unfold at0 at *
  cases sh with
  | true =>
    go_enter Try.func101, Try.ntmps101
    go_wp2_with fail
    go_ret
    exact ⟨rfl, hB1⟩
  | false =>
    go_enter Try.func101, Try.ntmps101
    go_wp2_with fail
    refine hk.mono ?_
    rintro e w' ⟨rfl, rfl⟩
    go_wp2_with fail
    go_ret
    exact ⟨rfl, hB1⟩
theorem shares1 (base k X : Nat) (tv : Value) (w : World) (hd : DeadT base w tv) (hX : Blk w X 126 #[tv]) : Calls Try.prog 120 #[at0 k, .pointer (some ⟨X, 0, none⟩)] w fun e w' => e = .returned (.bool false) ∧ w = w' := by
  have hk := owned_dead base k tv w hd
  have c0 := hX.cell 0
  obtain ⟨a, rfl⟩ := hd.form
  simp at c0
  clear hX hd
  unfold at0 at *
  go_enter Try.func120, Try.ntmps120
  go_wp2_with fail
  refine hk.mono ?_
  rintro e w' ⟨rfl, rfl⟩
  go_wp2_with fail
  go_ret
  exact ⟨rfl, rfl⟩
def fn118 (X : Nat) : Value := .func (.func 120) #[] #[.pointer (some ⟨X, 0, none⟩)]
theorem index_dead (base base' X : Nat) (kv tv : Value) (bs : List Nat) (w : World) (hd : DeadT base w tv) (hX : Blk w X 126 #[tv]) (hO : OwnK base' w kv bs) (hn : bs.length ≤ 1000) : Calls Try.prog 65 #[kv, fn118 X] w fun e w' => e = .returned (.int .i64 (-1)) ∧ Below w.heap.size w w' := by
  obtain ⟨N, hN⟩ : ∃ N, N = bs.length := ⟨_, rfl⟩
  obtain ⟨A, c, hkv⟩ : ∃ A c, kv = .slice A N c := by
    rcases hO.2 with ⟨e, h0⟩ | ⟨g, cap, cur, e, _⟩
    · exact ⟨none, 0, by rw [e, hN, h0]⟩
    · exact ⟨_, _, by rw [e, hN]⟩
  subst hkv
  rw [← hN] at hn
  have hcall : ∀ j, j < N → ∀ wr, Below w.heap.size w wr → (∃ g c, A = some ⟨g, 0, none⟩ ∧ wr.cell? ⟨g, j, none⟩ = some (at0 (bs.getD j 0))) ∧ Calls Try.prog 120 #[at0 (bs.getD j 0), .pointer (some ⟨X, 0, none⟩)] wr fun e w' => e = .returned (.bool false) ∧ wr = w' := fun j hj wr hB => by
    obtain ⟨g, c, e, h⟩ := (hO.stay hB).at_ j (by omega)
    refine ⟨⟨g, c, by simpa using congrArg (fun v : Value => match v with | .slice a _ _ => a | _ => none) e, h⟩, ?_⟩
    exact shares1 base _ X tv wr (hd.stay hB) (hX.keep (Keep.of_below (X := []) hB) (by simp))
  clear hO hd hX hN
  unfold fn118
  go_enter Try.func65, Try.ntmps65
  go_wp2_with fail
  go_loopw [8] (fun vi wr => ∃ i : Nat, vi = .int .i64 i ∧ i ≤ N ∧ Below w.heap.size w wr) (fun vi wr => N - (intOf vi).toNat)
  case atStart => exact ⟨0, rfl, Nat.zero_le _, Below.refl _ _⟩
  case round =>
    obtain ⟨i, rfl, hi, hB⟩ := hrel
    by_cases hlt : i < N
    · obtain ⟨⟨g, c', rfl, c0⟩, hc⟩ := hcall i hlt _ hB
      have B2 : (i : Int) < (N : Int) := by omega
      have E3 : IntKind.i64.wrap ((i : Int) + 1) = ((i + 1 : Nat) : Int) := by rw [IntWalk.i64_in _ (by omega)]; omega
      unfold at0 at c0 hc
      generalize bs.getD i 0 = kb at *
      clear hcall
      go_wp2_with fail
      refine hc.mono ?_
      rintro e w1 ⟨rfl, rfl⟩
      go_wp2_with fail
      refine ⟨⟨i + 1, by go_num, by omega, hB⟩, ?_⟩
      simp [intOf]; omega
    · have B2 : ¬ ((i : Int) < (N : Int)) := by omega
      clear hcall
      go_wp2_with fail
      go_ret
      exact ⟨rfl, hB⟩
theorem contains_dead (base base' X : Nat) (kv tv : Value) (bs : List Nat) (w : World) (hd : DeadT base w tv) (hX : Blk w X 126 #[tv]) (hO : OwnK base' w kv bs) (hn : bs.length ≤ 1000) : Calls Try.prog 119 #[kv, fn118 X] w fun e w' => e = .returned (.bool false) ∧ Below w.heap.size w w' := by
  have hk := index_dead base base' X kv tv bs w hd hX hO hn
  obtain ⟨A, n, c, rfl⟩ : ∃ A n c, kv = .slice A n c := by
    rcases hO.2 with ⟨e, _⟩ | ⟨g, cap, cur, e, _⟩
    · exact ⟨_, _, _, e⟩
    · exact ⟨_, _, _, e⟩
  clear hd hX hO
  unfold fn118 at *
  go_enter Try.func119, Try.ntmps119
  go_wp2_with fail
  refine hk.mono ?_
  rintro e w' ⟨rfl, hB⟩
  go_wp2_with fail
  go_ret
  exact ⟨rfl, hB⟩
theorem shares_dead (base base' b : Nat) (t : RX) (kv tv : Value) (bs : List Nat) (w : World) (hd : DeadT base w tv) (h : Nod base' w b t kv bs) (hn : bs.length ≤ 1000) : Calls Try.prog 113 #[.agg #[tv], at0 b, .bool false] w fun e w' => e = .returned (.bool false) ∧ Below w.heap.size w w' := by
  have hB1 := (Below.refl _ w).alloc (Nat.le_refl _) (.cells #[tv] 126)
  have hb := Blk.new w 126 #[tv]
  have h1 := h.keep (Keep.of_below (X := []) hB1) (by simp) (by simp)
  have hk := contains_dead base base' w.heap.size kv tv bs _ (hd.stay hB1) hb h1.row hn
  obtain ⟨a, rfl⟩ := hd.form
  obtain ⟨A, n, c, rfl⟩ : ∃ A n c, kv = .slice A n c := by
    rcases h.row.2 with ⟨e, _⟩ | ⟨g, cap, cur, e, _⟩
    · exact ⟨_, _, _, e⟩
    · exact ⟨_, _, _, e⟩
  obtain ⟨o, lab, val, sh, e1, e2, hB, c0, c1, c2, c3, c4, c5⟩ := h1.cells
  clear h h1 hB hd
  unfold at0 fn118 at *
  go_enter Try.func113, Try.ntmps113
  go_wp2_with fail
  refine hk.mono ?_
  rintro e w' ⟨rfl, hB⟩
  go_wp2_with fail
  go_ret
  exact ⟨rfl, (hB1.trans (hB.mono hB1.size))⟩
end Go.Proofs.Ytimhdegdmdilaaa
/- The node that a change is made to. -/
namespace Go.Proofs.Ytimhdegdmdilaaa
open Go.RowKit Go.Lib
set_option linter.unusedVariables false
set_option maxRecDepth 100000
set_option linter.unusedSimpArgs false
set_option linter.unnecessarySimpa false
set_option maxRecDepth 100000
theorem keepO {w w' : World} {b X : Nat} {v2 v3 v4 x : Value} (h : w.cell? ⟨b, 2, none⟩ = some v2 ∧ w.cell? ⟨b, 3, none⟩ = some v3 ∧ w.cell? ⟨b, 4, none⟩ = some v4 ∧ w.cell? ⟨X, 0, none⟩ = some x) (hb : Below w.heap.size w w') :
    w'.cell? ⟨b, 2, none⟩ = some v2 ∧ w'.cell? ⟨b, 3, none⟩ = some v3 ∧ w'.cell? ⟨b, 4, none⟩ = some v4 ∧ w'.cell? ⟨X, 0, none⟩ = some x := by
  have hl : b < w.heap.size := World.block_lt_of_cell? w _ h.1
  have hX : X < w.heap.size := World.block_lt_of_cell? w _ h.2.2.2
  exact ⟨(hb.cell hl).trans h.1, (hb.cell hl).trans h.2.1, (hb.cell hl).trans h.2.2.1, (hb.cell hX).trans h.2.2.2⟩
theorem keep2 {w w' : World} {b X i j : Nat} {v x : Value} (h : w.cell? ⟨b, i, none⟩ = some v ∧ w.cell? ⟨X, j, none⟩ = some x) (hb : Below w.heap.size w w') :
    w'.cell? ⟨b, i, none⟩ = some v ∧ w'.cell? ⟨X, j, none⟩ = some x :=
  ⟨(hb.cell (World.block_lt_of_cell? w _ h.1)).trans h.1, (hb.cell (World.block_lt_of_cell? w _ h.2)).trans h.2⟩
theorem OwnK.form {base : Nat} {w : World} {v : Value} {xs : List Nat} (h : OwnK base w v xs) : ∃ A n c, v = .slice A n c := by
  rcases h.2 with ⟨e, _⟩ | ⟨g, cap, cur, e, _⟩
  · exact ⟨_, _, _, e⟩
  · exact ⟨_, _, _, e⟩
theorem Blk.stay {w w' : World} {g : Nat} {t : TypeId} {cs : Array Value} (h : Blk w g t cs) (hb : Below w.heap.size w w') : Blk w' g t cs := h.keep (Keep.of_below (X := []) hb) (by simp)
theorem Nod.stay {base : Nat} {w w' : World} {b : Nat} {t : RX} {kv : Value} {bs : List Nat} (h : Nod base w b t kv bs) (hb : Below w.heap.size w w') : Nod base w' b t kv bs := h.keep (Keep.of_below (X := []) hb) (by simp) (by simp)
theorem six {w : World} {g : Nat} {t : TypeId} {a b c d e f : Value} (h : Blk w g t #[a, b, c, d, e, f]) :
    (w.cell? ⟨g, 0, none⟩ = some a ∧ w.cell? ⟨g, 1, none⟩ = some b ∧ w.cell? ⟨g, 2, none⟩ = some c ∧ w.cell? ⟨g, 3, none⟩ = some d ∧ w.cell? ⟨g, 4, none⟩ = some e ∧ w.cell? ⟨g, 5, none⟩ = some f) ∧
    (w.frozen? ⟨g, 0, none⟩ = false ∧ w.frozen? ⟨g, 1, none⟩ = false ∧ w.frozen? ⟨g, 2, none⟩ = false ∧ w.frozen? ⟨g, 3, none⟩ = false ∧ w.frozen? ⟨g, 4, none⟩ = false ∧ w.frozen? ⟨g, 5, none⟩ = false) :=
  ⟨⟨h.cell 0, h.cell 1, h.cell 2, h.cell 3, h.cell 4, h.cell 5⟩, h.frozen 0, h.frozen 1, h.frozen 2, h.frozen 3, h.frozen 4, h.frozen 5⟩
/-- what own leaves -/
def OwnPost (P : Nat → Prop) (base : Nat) (ours : Bool) (b0 : Nat) (t : RX) (w : World) (e : Ending) (w' : World) : Prop := ∃ b, e = .returned (at0 b) ∧ (ours = true → b = b0) ∧ MineW P base w' b t ∧ Below w.heap.size w w'
def Src (P : Nat → Prop) (base : Nat) (w : World) (ours : Bool) (b : Nat) (t : RX) : Prop := (ours = true ∧ MineW P base w b t) ∨ (ours = false ∧ RadW P w b t)
theorem own_mine (P : Nat → Prop) (base b : Nat) (t : RX) (tv : Value) (w : World) (hd : DeadT base w tv) (hb : base ≤ w.heap.size) (h : MineW P base w b t) : Calls Try.prog 99 #[.agg #[tv], at0 b, .bool true] w (OwnPost P base true b t w) := by
  obtain ⟨a, rfl⟩ := hd.form
  have hB1 := (Below.refl _ w).alloc (Nat.le_refl _) (.cells #[.pointer a] 126)
  unfold at0
  go_enter Try.func99, Try.ntmps99
  go_wp2_with fail
  go_ret
  exact ⟨b, rfl, fun _ => rfl, h.below hB1, hB1⟩
set_option maxHeartbeats 8000000 in
theorem own_copy (P : Nat → Prop) (base b : Nat) (t : RX) (tv : Value) (w : World) (hd : DeadT base w tv) (hb : base ≤ w.heap.size) (h : RadW P w b t) (hn : t.kids.length ≤ 800) : Calls Try.prog 99 #[.agg #[tv], at0 b, .bool false] w (OwnPost P base false b t w) := by
  have hB1 := (Below.refl _ w).alloc (Nat.le_refl _) (.cells #[tv] 126)
  have hX := Blk.new w 126 #[tv]
  have hd1 := hd.stay hB1
  have hRold := h.old
  cases hRold with
  | @mk _ _ kv bs hN hPb hPk hK =>
  have hN1 := hN.stay hB1
  have hln : bs.length ≤ 800 := by rw [hN.len]; exact hn
  have hLn := hN.len
  obtain ⟨o, lab, val, sh, e1, e2, hB, c0, c1, c2, c3, c4, c5⟩ := hN1.cells
  have kl := leaf_any base tv lab _ hd1
  obtain ⟨a, ha⟩ := hd.form
  subst ha
  obtain ⟨A, n, c, hkv⟩ := hN.row.form
  subst hkv
  have HK := Lib.hid hK
  clear h hK hd hPb hPk hN
  unfold at0
  go_enter Try.func99, Try.ntmps99
  go_wp2_with fail
  generalize hW0 : w.alloc (.cells #[.pointer a] 126) = W0 at *
  obtain ⟨X, hXe⟩ : ∃ X, X = w.heap.size := ⟨_, rfl⟩
  rw [← hXe] at hX ⊢
  have x0 := hX.cell 0
  simp at x0
  have HX := Lib.hid hXe
  have HW := Lib.hid hW0
  have HB1 := Lib.hid hB1
  clear hXe hW0 hB1
  have kl' : ∀ W, Below W0.heap.size W0 W → Calls Try.prog 84 #[.agg #[.pointer a], .string lab] W fun e w' => ∃ b, e = .returned (at0 b) ∧ W.heap.size ≤ b ∧ Blk w' b 132 (freshN lab) ∧ Below W.heap.size W w' := fun W hW => leaf_any base _ lab W (hd1.stay hW)
  go_region_held3 (fun w' : World => w'.cell? ⟨b, 1, none⟩ = some (.string lab) ∧ w'.cell? ⟨X, 0, none⟩ = some (.pointer a)) (first | exact ⟨c1, x0⟩ | exact keep2 (by assumption) hB2 | go_keep) (first
    | (go_at_call 84; refine (kl' _ (Below.refl _ _).drew).mono ?_; rintro e w1 ⟨M, rfl, hM, hBM, hB2⟩))
  have hB3 : Below W0.heap.size W0 w1 := (Below.refl _ W0).drew.trans hB2
  have hML : W0.heap.size ≤ M := hM
  have hN2 : Nod 0 w1.drew b t (.slice A n c) bs := hN1.stay (hB3.trans (Below.refl _ w1).drew)
  have hd2 : DeadT base w1.drew (.pointer a) := hd1.stay (hB3.trans (Below.refl _ w1).drew)
  have hX2 : Blk w1.drew X 126 #[.pointer a] := hX.stay (hB3.trans (Below.refl _ w1).drew)
  have hM2 : Blk w1.drew M 132 (freshN lab) := hBM
  have hB4 : Below w.heap.size w w1.drew := (HB1.out.trans (hB3.mono HB1.out.size)).drew
  have hMl : M < w1.heap.size := hBM.lt
  obtain ⟨⟨d0, d1, d2, d3, d4, d5⟩, -⟩ := six (hB.stay (hB3.trans (Below.refl _ w1).drew))
  have hx2 : w1.drew.cell? ⟨X, 0, none⟩ = some (.pointer a) := hX2.cell 0
  have hOL : Hid (w1.drew.heap.size ≤ w1.drew.heap.size) := Lib.hid (Nat.le_refl _)
  have HL := Lib.hid (hML)
  have HMl := Lib.hid hMl
  have hne : ¬ (M = X) := by
    intro e; rw [e] at hML; have := hX.lt; omega
  have hne2 : ¬ (M = b) := by
    intro e; rw [e] at hML; have := hN1.lt; omega
  clear hB2 hM hBM hN1 hd1 hX x0 c0 c1 c2 c3 c4 c5 kl kl' hX2 d0 d1 d5 hB hMl hML
  obtain ⟨L, hL⟩ : ∃ L, L = w1.heap.size := ⟨_, rfl⟩
  have HLL := Lib.hid hL
  unfold at0
  go_wp2_with fail
  go_region_held3 (fun w' : World => w'.cell? ⟨b, 2, none⟩ = some (.string val) ∧ w'.cell? ⟨b, 3, none⟩ = some (.bool t.val.isSome) ∧ w'.cell? ⟨b, 4, none⟩ = some (.slice A n c) ∧ w'.cell? ⟨X, 0, none⟩ = some (.pointer a)) (first | exact ⟨d2, d3, d4, hx2⟩ | exact keepO (by assumption) hB | go_keep) (first
    | (have _g := hO1; clear _g; go_at_call 113; refine (shares_dead base 0 b t (.slice A n c) (.pointer a) bs _ hd2 hN2 (by omega)).mono ?_; rintro e w3 ⟨rfl, hB⟩; replace hO1 := hO1.stay hB; replace hM2 := hM2.stay hB; replace hB4 := hB4.trans (hB.mono hB4.size); obtain ⟨⟨z0, z1, z2, z3, z4, z5⟩, y0, y1, y2, y3, y4, y5⟩ := six hM2)
    | (go_at_call 94; refine (clone_kids 0 (.slice A n c) bs _ hN2.row (by omega)).mono ?_; rintro e w2 ⟨v1, rfl, hO1, hB⟩; replace hO1 := hO1.base (b' := L) (Nat.le_of_eq hL); replace hM2 := hM2.stay hB; replace hN2 := hN2.stay hB; replace hd2 := hd2.stay hB; replace hB4 := hB4.trans (hB.mono hB4.size); obtain ⟨A1, n1, q1, rfl⟩ := hO1.form))
  have hwM : w.heap.size ≤ M := Nat.le_trans HB1.out.size HL.out
  have hwL : w.heap.size ≤ L := Nat.le_trans (Nat.le_trans HB1.out.size HL.out) (by rw [hL]; exact Nat.le_of_lt HMl.out)
  have hb9 : Blk ((((w3.setCell ⟨M, 2, none⟩ (.string (t.val.getD ByteArray.empty))).setCell ⟨M, 3, none⟩ (.bool t.val.isSome)).setCell ⟨M, 4, none⟩ (.slice A1 n1 q1)).setCell ⟨M, 5, none⟩ (.bool false)) M 132 #[.pointer none, .string lab, .string (t.val.getD ByteArray.empty), .bool t.val.isSome, .slice A1 n1 q1, .bool false] :=
    (((hM2.set_ 2 (.string (t.val.getD ByteArray.empty))).set_ 3 (.bool t.val.isSome)).set_ 4 (.slice A1 n1 q1)).set_ 5 (.bool false)
  have e9 : (Value.slice A1 n1 q1).ownBlock ≠ some M := own_ne hO1 (fun cur e => by unfold Blk at hM2; rw [hM2] at e; cases e)
  have hO9 : OwnK L ((((w3.setCell ⟨M, 2, none⟩ (.string (t.val.getD ByteArray.empty))).setCell ⟨M, 3, none⟩ (.bool t.val.isSome)).setCell ⟨M, 4, none⟩ (.slice A1 n1 q1)).setCell ⟨M, 5, none⟩ (.bool false)) (.slice A1 n1 q1) bs :=
    ownsRow_setCell_other (ownsRow_setCell_other (ownsRow_setCell_other (ownsRow_setCell_other hO1 e9 _) e9 _) e9 _) e9 _
  have hB9 : Below w.heap.size w ((((w3.setCell ⟨M, 2, none⟩ (.string (t.val.getD ByteArray.empty))).setCell ⟨M, 3, none⟩ (.bool t.val.isSome)).setCell ⟨M, 4, none⟩ (.slice A1 n1 q1)).setCell ⟨M, 5, none⟩ (.bool false)) :=
    (((hB4.setCell (p := ⟨M, 2, none⟩) hwM _).setCell (p := ⟨M, 3, none⟩) hwM _).setCell (p := ⟨M, 4, none⟩) hwM _).setCell (p := ⟨M, 5, none⟩) hwM _
  generalize (((w3.setCell ⟨M, 2, none⟩ (.string (t.val.getD ByteArray.empty))).setCell ⟨M, 3, none⟩ (.bool t.val.isSome)).setCell ⟨M, 4, none⟩ (.slice A1 n1 q1)).setCell ⟨M, 5, none⟩ (.bool false) = W9 at *
  clear z0 z1 z2 z3 z4 z5 y0 y1 y2 y3 y4 y5 hM2 hB hd2 hN2
  go_wp2_with fail
  go_ret
  refine ⟨M, rfl, fun h => by simp at h, ⟨.slice A1 n1 q1, bs, ⟨⟨_, lab, _, false, hb9, e1, rfl⟩, hO9.base (by omega), hLn⟩, by omega, fun i c' k hc hk => ?_⟩, hB9⟩
  refine ((HK.out i c' k hc hk).stay hB9).mono fun x hx _ => ⟨hx.1, by omega, fun e => ?_⟩
  have := own_ge hO9 x e
  omega
theorem own_any (P : Nat → Prop) (base b : Nat) (ours : Bool) (t : RX) (tv : Value) (w : World) (hd : DeadT base w tv) (hb : base ≤ w.heap.size) (h : Src P base w ours b t) (hn : t.kids.length ≤ 800) : Calls Try.prog 99 #[.agg #[tv], at0 b, .bool ours] w (OwnPost P base ours b t w) := by
  rcases h with ⟨rfl, h⟩ | ⟨rfl, h⟩
  · exact own_mine P base b t tv w hd hb h
  · exact own_copy P base b t tv w hd hb h hn
end Go.Proofs.Ytimhdegdmdilaaa
/- What the calls of package twig return: Common, Begins, Cut. -/
namespace Go.Proofs.Ytimhdegdmdilaaa.Tw
open Go.RowKit Go.Lib
set_option linter.unusedVariables false
set_option maxRecDepth 100000
set_option linter.unusedSimpArgs false
set_option linter.unnecessarySimpa false
set_option maxRecDepth 100000
/-- how far two go together -/
def cmn : List UInt8 → List UInt8 → Nat
  | a :: xs, b :: ys => if a = b then cmn xs ys + 1 else 0
  | _, _ => 0
theorem cmn_le (a b : List UInt8) : cmn a b ≤ a.length ∧ cmn a b ≤ b.length := by
  induction a generalizing b with
  | nil => simp [cmn]
  | cons x a ih =>
    cases b with
    | nil => simp [cmn]
    | cons y b =>
      simp only [cmn]
      split
      · have := ih b; simp; omega
      · simp
theorem cmn_comm (a b : List UInt8) : cmn a b = cmn b a := by
  induction a generalizing b with
  | nil => cases b <;> simp [cmn]
  | cons x a ih =>
    cases b with
    | nil => simp [cmn]
    | cons y b =>
      simp only [cmn]
      by_cases h : x = y
      · subst h; simp [ih b]
      · simp [h, Ne.symm h]
theorem cmn_at (a b : List UInt8) (i : Nat) (h : a.take i = b.take i) (ha : i ≤ a.length) (hb : i ≤ b.length) : cmn a b = i + cmn (a.drop i) (b.drop i) := by
  induction i generalizing a b with
  | zero => simp
  | succ i ih =>
    cases a with
    | nil => simp at ha
    | cons x a =>
      cases b with
      | nil => simp at hb
      | cons y b =>
        simp only [List.take_succ_cons, List.cons.injEq] at h
        simp only [List.length_cons] at ha hb
        have := ih a b h.2 (by omega) (by omega)
        simp only [cmn, h.1, if_true, List.drop_succ_cons]
        omega
theorem cmn_take (a b : List UInt8) : a.take (cmn a b) = b.take (cmn a b) := by
  induction a generalizing b with
  | nil => simp [cmn]
  | cons x a ih =>
    cases b with
    | nil => simp [cmn]
    | cons y b =>
      simp only [cmn]
      by_cases h : x = y
      · subst h; simp [ih b]
      · simp [h]
theorem cmn_end {a b : List UInt8} {i : Nat} (h : a.take i = b.take i) (ha : i ≤ a.length) (hb : i ≤ b.length) (he : i = a.length ∨ i = b.length) : cmn a b = i := by
  rw [cmn_at a b i h ha hb]
  rcases he with e | e
  · rw [List.drop_of_length_le (l := a) (by omega)]; simp [cmn]
  · rw [List.drop_of_length_le (l := b) (by omega), cmn_comm]; simp [cmn]
theorem cmn_diff {a b : List UInt8} {i : Nat} (h : a.take i = b.take i) (ha : i < a.length) (hb : i < b.length) (he : a[i] ≠ b[i]) : cmn a b = i := by
  rw [cmn_at a b i h (by omega) (by omega), List.drop_eq_getElem_cons ha, List.drop_eq_getElem_cons hb]
  simp [cmn, he]
theorem cmn_begins (a b : List UInt8) : cmn a b = b.length ↔ b <+: a := by
  constructor
  · intro h
    have := cmn_take a b
    rw [h, List.take_length] at this
    exact ⟨a.drop b.length, by conv => lhs; arg 1; rw [← this]
                               exact List.take_append_drop _ _⟩
  · rintro ⟨t, rfl⟩
    exact cmn_end (by simp) (by simp) (Nat.le_refl _) (.inr rfl)
/-- how far two strings go together -/
def cm (a b : ByteArray) : Nat := cmn a.data.toList b.data.toList
/-- whether one string begins with another -/
def bgB (s p : ByteArray) : Bool := decide (p.data.toList <+: s.data.toList)
theorem bgB_iff (s p : ByteArray) : bgB s p = true ↔ p.data.toList <+: s.data.toList := by unfold bgB; simp
theorem cm_le (a b : ByteArray) : cm a b ≤ a.size ∧ cm a b ≤ b.size := cmn_le _ _
theorem bgB_cm (s p : ByteArray) : bgB s p = decide (cm s p = p.size) := by
  unfold bgB cm
  rw [decide_eq_decide]
  exact (cmn_begins _ _).symm
theorem byte_at (a : ByteArray) (i : Nat) (h : i < a.size) : a.data.toList[i]'h = a[i] := rfl
theorem take_at {a b : ByteArray} {i : Nat} (h : a.data.toList.take i = b.data.toList.take i) (ha : i < a.size) (hb : i < b.size) (he : a[i] = b[i]) : a.data.toList.take (i + 1) = b.data.toList.take (i + 1) := by
  have l1 : i < a.data.toList.length := ha
  have l2 : i < b.data.toList.length := hb
  rw [List.take_succ_eq_append_getElem l1, List.take_succ_eq_append_getElem l2, h]
  congr 2
theorem cm_at {a b : ByteArray} {i : Nat} (h : a.data.toList.take i = b.data.toList.take i) (ha : i < a.size) (hb : i < b.size) (hne : a[i] ≠ b[i]) : cm a b = i :=
  cmn_diff h ha hb hne
theorem cm_end {a b : ByteArray} {i : Nat} (h : a.data.toList.take i = b.data.toList.take i) (hi : i = a.size ∨ i = b.size) (hia : i ≤ a.size) (hib : i ≤ b.size) : cm a b = i :=
  cmn_end h hia hib hi
theorem drew2 (w : World) (x y : Nat) : ∃ n, (w.drewN x).drewN y = w.drewN n := ⟨x + y, by simp [World.drewN, Nat.add_assoc]⟩
theorem drew3 (w : World) (x y z : Nat) : ∃ n, ((w.drewN x).drewN y).drewN z = w.drewN n := ⟨x + y + z, by simp [World.drewN, Nat.add_assoc]⟩
theorem ret_int {k : IntKind} {a b : Int} (h : a = b) : Ending.returned (.int k a) = .returned (.int k b) := by rw [h]

set_option maxRecDepth 100000 in
set_option maxHeartbeats 4000000 in
theorem common_any (a b : ByteArray) (w : World) (ha : a.size ≤ maxLen) (hb : b.size ≤ maxLen) : Calls Try.prog 102 #[.string a, .string b] w fun e w' => e = .returned (.int .i64 (cm a b : Nat)) ∧ ∃ n, w' = w.drewN n := by
  unfold maxLen at ha hb
  go_enter Try.func102, Try.ntmps102
  go_wp2_with fail
  go_loopw [5] (fun v wr => ∃ i : Nat, v = .int .i64 i ∧ i ≤ a.size ∧ i ≤ b.size ∧ Hid (a.data.toList.take i = b.data.toList.take i) ∧ ∃ q, wr = w.drewN q) (fun v wr => a.size - (intOf v).toNat)
  case atStart => exact ⟨0, rfl, by omega, by omega, Lib.hid rfl, 0, rfl⟩
  case round =>
    obtain ⟨i, rfl, hia, hib, hE, q, rfl⟩ := hrel
    by_cases h1 : i < a.size
    · have E1 : IntKind.i64.wrap ((i : Int) + 1) = ((i + 1 : Nat) : Int) := by rw [IntWalk.i64_in _ (by omega)]; omega
      by_cases h2 : i < b.size
      · by_cases he : a[i] = b[i]
        · have T : (((a[i].toNat : Nat) : Int) == ((b[i].toNat : Nat) : Int)) = true := by rw [he]; simp
          have S := Lib.hid (take_at hE.out h1 h2 he)
          clear he
          go_wp2_with fail
          go_quiet (fail)
          go_wp2_with fail
          exact ⟨⟨i + 1, by go_num, by omega, by omega, S, _, rfl⟩, by simp [intOf]; omega⟩
        · have T : (((a[i].toNat : Nat) : Int) == ((b[i].toNat : Nat) : Int)) = false := by
            rw [beq_eq_false_iff_ne]
            intro hc
            exact he (UInt8.toNat_inj.1 (by omega))
          have S := Lib.hid (cm_at hE.out h1 h2 he)
          clear he
          go_wp2_with fail
          go_quiet (fail)
          go_wp2_with fail
          go_ret
          rw [S.out]
          exact ⟨rfl, drew2 _ _ _⟩
      · have S := Lib.hid (cm_end hE.out (.inr (by omega)) hia hib)
        go_wp2_with fail
        go_quiet (fail)
        go_wp2_with fail
        go_ret
        rw [S.out]
        exact ⟨rfl, drew2 _ _ _⟩
    · have S := Lib.hid (cm_end hE.out (.inl (by omega)) hia hib)
      go_wp2_with fail
      go_quiet (fail)
      go_wp2_with fail
      go_ret
      rw [S.out]
      exact ⟨rfl, drew2 _ _ _⟩
set_option maxRecDepth 100000 in
set_option maxHeartbeats 4000000 in
theorem refCommon_any (a b : ByteArray) (w : World) (ha : a.size ≤ maxLen) (hb : b.size ≤ maxLen) : Calls Try.prog 77 #[.string a, .string b] w fun e w' => e = .returned (.int .i64 (cm a b : Nat)) ∧ ∃ n, w' = w.drewN n := by
  unfold maxLen at ha hb
  go_enter Try.func77, Try.ntmps77
  go_wp2_with fail
  go_loopw [5] (fun v wr => ∃ i : Nat, v = .int .i64 i ∧ i ≤ a.size ∧ i ≤ b.size ∧ Hid (a.data.toList.take i = b.data.toList.take i) ∧ ∃ q, wr = w.drewN q) (fun v wr => a.size - (intOf v).toNat)
  case atStart => exact ⟨0, rfl, by omega, by omega, Lib.hid rfl, 0, rfl⟩
  case round =>
    obtain ⟨i, rfl, hia, hib, hE, q, rfl⟩ := hrel
    by_cases h1 : i < a.size
    · have E1 : IntKind.i64.wrap ((i : Int) + 1) = ((i + 1 : Nat) : Int) := by rw [IntWalk.i64_in _ (by omega)]; omega
      by_cases h2 : i < b.size
      · by_cases he : a[i] = b[i]
        · have T : (((a[i].toNat : Nat) : Int) == ((b[i].toNat : Nat) : Int)) = true := by rw [he]; simp
          have S := Lib.hid (take_at hE.out h1 h2 he)
          clear he
          go_wp2_with fail
          go_quiet (fail)
          go_wp2_with fail
          exact ⟨⟨i + 1, by go_num, by omega, by omega, S, _, rfl⟩, by simp [intOf]; omega⟩
        · have T : (((a[i].toNat : Nat) : Int) == ((b[i].toNat : Nat) : Int)) = false := by
            rw [beq_eq_false_iff_ne]
            intro hc
            exact he (UInt8.toNat_inj.1 (by omega))
          have S := Lib.hid (cm_at hE.out h1 h2 he)
          clear he
          go_wp2_with fail
          go_quiet (fail)
          go_wp2_with fail
          go_ret
          rw [S.out]
          exact ⟨rfl, drew2 _ _ _⟩
      · have S := Lib.hid (cm_end hE.out (.inr (by omega)) hia hib)
        go_wp2_with fail
        go_quiet (fail)
        go_wp2_with fail
        go_ret
        rw [S.out]
        exact ⟨rfl, drew2 _ _ _⟩
    · have S := Lib.hid (cm_end hE.out (.inl (by omega)) hia hib)
      go_wp2_with fail
      go_quiet (fail)
      go_wp2_with fail
      go_ret
      rw [S.out]
      exact ⟨rfl, drew2 _ _ _⟩
theorem ext_to (s : ByteArray) (k : Nat) : (s.extract 0 k).data.toList = s.data.toList.take k := by
  rw [ByteArray.data_extract]; simp
theorem ext_from (s : ByteArray) (k : Nat) : (s.extract k s.size).data.toList = s.data.toList.drop k := by
  rw [ByteArray.data_extract]
  simp only [Array.toList_extract, List.extract_eq_take_drop]
  rw [List.take_of_length_le]
  rw [List.length_drop]
  exact Nat.le_refl _
theorem bg_yes (s p : ByteArray) : ((s.extract 0 p.size).toList == p.toList) = bgB s p := by
  rw [ByteArray.toList_eq, ByteArray.toList_eq, ext_to, Bool.eq_iff_iff, beq_iff_eq, bgB_iff, List.prefix_iff_eq_take]
  exact eq_comm
theorem bg_no (s p : ByteArray) (h : ¬ p.size ≤ s.size) : bgB s p = false := by
  rw [Bool.eq_false_iff]
  intro hb
  have := ((bgB_iff s p).1 hb).length_le
  exact h this
set_option maxRecDepth 100000 in
theorem prefix81 (s p : ByteArray) (w : World) (hs : s.size ≤ maxLen) (hp : p.size ≤ maxLen) : Calls Try.prog 122 #[.string s, .string p] w fun e w' => e = .returned (.bool (bgB s p)) ∧ w = w' := by
  unfold maxLen at hs hp
  by_cases h : p.size ≤ s.size
  · have S := Lib.hid (bg_yes s p)
    go_enter Try.func122, Try.ntmps122
    go_wp2_with fail
    go_ret
    rw [← S.out]
    exact ⟨rfl, rfl⟩
  · have S := Lib.hid (bg_no s p h)
    go_enter Try.func122, Try.ntmps122
    go_wp2_with fail
    go_ret
    rw [S.out]
    exact ⟨rfl, rfl⟩
theorem prefix66 (s p : ByteArray) (w : World) (hs : s.size ≤ maxLen) (hp : p.size ≤ maxLen) : Calls Try.prog 116 #[.string s, .string p] w fun e w' => e = .returned (.bool (bgB s p)) ∧ w = w' := by
  go_enter Try.func116, Try.ntmps116
  go_wp2_with (go_at_call 122; refine (prefix81 s p _ hs hp).mono ?_; rintro e w' ⟨rfl, rfl⟩)
  go_ret
  exact ⟨rfl, rfl⟩
theorem begins_any (s p : ByteArray) (w : World) (hs : s.size ≤ maxLen) (hp : p.size ≤ maxLen) : Calls Try.prog 107 #[.string s, .string p] w fun e w' => e = .returned (.bool (bgB s p)) ∧ w = w' := by
  go_enter Try.func107, Try.ntmps107
  go_wp2_with (go_at_call 116; refine (prefix66 s p _ hs hp).mono ?_; rintro e w' ⟨rfl, rfl⟩)
  go_ret
  exact ⟨rfl, rfl⟩
/-- what stands behind a beginning; nothing, if it is none -/
def restS (s p : ByteArray) : ByteArray := if bgB s p then s.extract p.size s.size else ByteArray.empty
set_option maxRecDepth 100000 in
theorem cut_any (s p : ByteArray) (w : World) (hs : s.size ≤ maxLen) (hp : p.size ≤ maxLen) : Calls Try.prog 92 #[.string s, .string p] w fun e w' => e = .returned (.tuple #[.string (restS s p), .bool (bgB s p)]) ∧ w = w' := by
  have ha := hs
  have hb := hp
  unfold maxLen at hs hp
  unfold restS
  rcases hB : bgB s p with _ | _
  · have S := Lib.hid hB
    clear hB
    go_enter Try.func92, Try.ntmps92
    go_wp2_with (go_at_call 107; refine (begins_any s p _ ha hb).mono ?_; rw [S.out]; rintro e w' ⟨rfl, rfl⟩)
    go_ret2
    exact ⟨rfl, rfl⟩
  · have S := Lib.hid hB
    have hl : p.size ≤ s.size := ((bgB_iff s p).1 hB).length_le
    clear hB
    go_enter Try.func92, Try.ntmps92
    go_wp2_with (go_at_call 107; refine (begins_any s p _ ha hb).mono ?_; rw [S.out]; rintro e w' ⟨rfl, rfl⟩)
    go_ret2
    exact ⟨rfl, rfl⟩
end Go.Proofs.Ytimhdegdmdilaaa.Tw
/- A node split. -/
namespace Go.Proofs.Ytimhdegdmdilaaa
open Go.RowKit Go.Lib
set_option linter.unusedVariables false
set_option maxRecDepth 100000
set_option linter.unusedSimpArgs false
set_option linter.unnecessarySimpa false
set_option maxRecDepth 100000
theorem ext_to (s : ByteArray) (k : Nat) : (s.extract 0 k).data.toList = s.data.toList.take k := Tw.ext_to s k
theorem ext_from (s : ByteArray) (k : Nat) : (s.extract k s.size).data.toList = s.data.toList.drop k := Tw.ext_from s k
theorem own_new_row {w : World} {g : Nat} {xs : List Nat} (h : Blk w g 24 (kcs xs).toArray) (h0 : 0 < xs.length) (hx : xs.length ≤ 1000) : OwnK g w (.slice (some ⟨g, 0, none⟩) xs.length xs.length) xs := by
  refine ⟨by simp [kcs], .inr ⟨g, xs.length, (kcs xs).toArray, rfl, Nat.le_refl _, h, Nat.le_refl _, by unfold maxLen; omega, by simp [kcs], ?_⟩⟩
  rw [List.take_of_length_le (by simp [kcs])]
set_option maxHeartbeats 4000000 in
theorem split_any (P : Nat → Prop) (base b c : Nat) (t : RX) (tv : Value) (w : World) (hd : DeadT base w tv) (hb : base ≤ w.heap.size) (h : RadW P w b t) (hP : ∀ x, base ≤ x → P x) (hn : t.kids.length ≤ 800) (hc : c ≤ t.lab.length) (hl : t.lab.length ≤ 1000) :
    Calls Try.prog 103 #[.agg #[tv], at0 b, .bool false, .int .i64 c] w (OwnPost P base false b (.node (t.lab.take c) none [.node (t.lab.drop c) t.val t.kids]) w) := by
  have hR := h.old
  have hlt := h.lt
  have hB1 := (Below.refl _ w).alloc (Nat.le_refl _) (.cells #[tv] 126)
  have hX := Blk.new w 126 #[tv]
  have hd1 := hd.stay hB1
  have hR1 := hR.stay hB1
  obtain ⟨a, rfl⟩ := hd.form
  generalize hW0 : w.alloc (.cells #[.pointer a] 126) = W0 at *
  have hNb : ∃ kv bs, Nod 0 W0 b t kv bs := by
    cases hR1 with | mk h1 => exact ⟨_, _, h1⟩
  obtain ⟨kv0, bs0, hNb⟩ := hNb
  obtain ⟨o, lab, val, sh, e1, e2, hBb, c0, c1, c2, c3, c4, c5⟩ := hNb.cells
  have hlab : lab.size = t.lab.length := by rw [← e1, Array.length_toList]; rfl
  have hcl : (c : Int) ≤ (lab.size : Int) := by omega
  have Hlab := Lib.hid hlab
  clear hlab
  have kl : ∀ W, Below W0.heap.size W0 W → Calls Try.prog 84 #[.agg #[.pointer a], .string (lab.extract 0 c)] W fun e w' => ∃ b, e = .returned (at0 b) ∧ W.heap.size ≤ b ∧ Blk w' b 132 (freshN (lab.extract 0 c)) ∧ Below W.heap.size W w' := fun W hW => leaf_any base _ _ W (hd1.stay hW)
  obtain ⟨X, hXe⟩ : ∃ X, X = w.heap.size := ⟨_, rfl⟩
  rw [← hXe] at hX
  have x0 := hX.cell 0
  simp at x0
  unfold at0
  go_enter Try.func103, Try.ntmps103
  go_wp2_with fail
  rw [← hXe]
  have HW := Lib.hid hW0
  have HX := Lib.hid hXe
  clear hW0 h hR hXe
  go_region_held3 (fun w' : World => w'.cell? ⟨b, 1, none⟩ = some (.string lab) ∧ w'.cell? ⟨X, 0, none⟩ = some (.pointer a)) (first | exact ⟨c1, x0⟩ | exact keep2 (by assumption) hB2 | go_keep) (first
    | (go_at_call 84; refine (kl _ (Below.refl _ _).drew).mono ?_; rintro e w1 ⟨M, rfl, hM, hBM, hB2⟩))
  have hB3 : Below W0.heap.size W0 w1 := (Below.refl _ W0).drew.trans hB2
  have hWM : W0.heap.size ≤ M := hM
  have hMl := hBM.lt
  have hR2 := hR1.stay hB3
  have hd2 := (hd1.stay hB3).up (Nat.le_trans hb (Nat.le_trans hB1.size hB3.size))
  have ko := own_copy (fun x => P x ∧ x < w.heap.size) w1.heap.size b t (.pointer a) w1 hd2 (Nat.le_refl _) hR2 hn
  have hbm := hBM
  have hBb2 := hBb.stay hB3
  have hX2 := hX.stay hB3
  have hBw1 : Below w.heap.size w w1 := hB1.trans (hB3.mono hB1.size)
  clear hB2 hM hR1 hd1 hR2 hd2 kl c0 c1 c2 c3 c4 c5 x0 hNb hBb hX hd
  have hx2 := hX2.cell 0
  simp at hx2
  unfold at0 at ko ⊢
  go_wp2_with fail
  refine ko.mono ?_
  rintro e w2 ⟨m, rfl, -, hm, hB4⟩
  obtain ⟨kv, bs, hNm, hmge, hkids⟩ := hm.ex
  obtain ⟨o', lab', val', sh', e1', e2', hBm, m0, m1, m2, m3, m4, m5⟩ := hNm.cells
  have hBb3 := hBb2.stay hB4
  obtain ⟨⟨d0, d1, d2, d3, d4, d5⟩, -⟩ := six hBb3
  have hbm2 := hbm.stay hB4
  have f1 := hBm.frozen 1
  have hs1 : (w2.cell? ⟨m, 1, none⟩).isSome = true := by rw [m1]; rfl
  have hMm : M ≠ m := by omega
  have hb3 := hbm2.far (p := ⟨m, 1, none⟩) hMm (.string (lab.extract c lab.size))
  have hb4 := hb3.alloc (.cells #[.pointer (some ⟨m, 0, none⟩)] 24)
  have g4 := hb4.frozen 4
  have z4 : ((w2.setCell ⟨m, 1, none⟩ (.string (lab.extract c lab.size))).alloc (.cells #[.pointer (some ⟨m, 0, none⟩)] 24)).cell? ⟨M, 4, none⟩ = some (.slice none 0 0) := hb4.cell 4
  have hm3 : Blk (w2.setCell ⟨m, 1, none⟩ (.string (lab.extract c lab.size))) m 132 #[o', .string (lab.extract c lab.size), .string val', .bool t.val.isSome, kv, .bool sh'] := hBm.set_ 1 _
  have hm4 := hm3.alloc (.cells #[.pointer (some ⟨m, 0, none⟩)] 24)
  have hS4 := Blk.new (w2.setCell ⟨m, 1, none⟩ (.string (lab.extract c lab.size))) 24 #[.pointer (some ⟨m, 0, none⟩)]
  have hsz : (w2.setCell ⟨m, 1, none⟩ (.string (lab.extract c lab.size))).heap.size = w2.heap.size := by simp
  rw [hsz] at hS4
  have hB5 : Below w1.heap.size w1 ((w2.setCell ⟨m, 1, none⟩ (.string (lab.extract c lab.size))).alloc (.cells #[.pointer (some ⟨m, 0, none⟩)] 24)) := (hB4.setCell (p := ⟨m, 1, none⟩) hmge _).alloc (by rw [hsz]; exact hB4.size) _
  have hkX : Keep [m] w2 ((w2.setCell ⟨m, 1, none⟩ (.string (lab.extract c lab.size))).alloc (.cells #[.pointer (some ⟨m, 0, none⟩)] 24)) := ((Keep.refl [m] w2).setCell (p := ⟨m, 1, none⟩) (by simp) _).alloc _
  have hm2 := hm.ex
  have hmlt := hBm.lt
  have hr4 : OwnK w1.heap.size ((w2.setCell ⟨m, 1, none⟩ (.string (lab.extract c lab.size))).alloc (.cells #[.pointer (some ⟨m, 0, none⟩)] 24)) kv bs := own_keep hNm.row hkX (fun x hx => by simp at hx; subst hx; exact own_ne hNm.row (fun cur e => by unfold Blk at hBm; rw [hBm] at e; cases e))
  have hrlt := fun g hg => hNm.row.lt (g := g) hg
  have HK := Lib.hid hkids
  have HN := Lib.hid hNm.len
  clear ko hBb2 hX2 hx2 hB3 hm hkids hNm m0 m2 m3 m4 m5 hm2 hbm2 hb3 hm3 hsz
  unfold at0
  go_wp2_with fail
  go_ret
  generalize hW4 : (w2.setCell ⟨m, 1, none⟩ (.string (lab.extract c lab.size))).alloc (.cells #[.pointer (some ⟨m, 0, none⟩)] 24) = W4 at *
  have hMw : w.heap.size ≤ M := Nat.le_trans hB1.size hWM
  have hb5 : Blk (W4.setCell ⟨M, 4, none⟩ (.slice (some ⟨w2.heap.size, 0, none⟩) 1 1)) M 132 #[.pointer none, .string (lab.extract 0 c), .string ⟨#[]⟩, .bool false, .slice (some ⟨w2.heap.size, 0, none⟩) 1 1, .bool false] := hb4.set_ 4 _
  have hm5 := hm4.far (p := ⟨M, 4, none⟩) (Ne.symm hMm) (.slice (some ⟨w2.heap.size, 0, none⟩) 1 1)
  have hS5 := hS4.far (p := ⟨M, 4, none⟩) (show w2.heap.size ≠ M by have := hB4.size; omega) (.slice (some ⟨w2.heap.size, 0, none⟩) 1 1)
  have hkM : Keep [M] W4 (W4.setCell ⟨M, 4, none⟩ (.slice (some ⟨w2.heap.size, 0, none⟩) 1 1)) := (Keep.refl [M] W4).setCell (p := ⟨M, 4, none⟩) (by simp) _
  have hr5 := own_keep hr4 hkM (fun x hx e => by simp at hx; subst hx; have := own_ge hr4 _ e; omega)
  have hB6 : Below w.heap.size w (W4.setCell ⟨M, 4, none⟩ (.slice (some ⟨w2.heap.size, 0, none⟩) 1 1)) := (hBw1.trans (hB5.mono hBw1.size)).setCell (p := ⟨M, 4, none⟩) hMw _
  have hw12 := hB4.size
  have hrow := own_new_row (xs := [m]) hS5 (by simp) (by simp)
  refine ⟨M, rfl, fun h => by simp at h, ⟨_, [m], ⟨⟨.pointer none, lab.extract 0 c, ⟨#[]⟩, false, hb5, by rw [ext_to, e1]; rfl, rfl⟩, hrow.base (b' := base) (by have := hBw1.size; omega), rfl⟩, by omega, fun i c' k hc' hk => ?_⟩, hB6⟩
  cases i with
  | succ i => simp at hc'
  | zero =>
    simp only [List.getElem?_cons_zero, Option.some.injEq, RX.kids] at hc' hk
    subst hc' hk
    refine .mk (kv := kv) (bs := bs) ⟨⟨o', lab.extract c lab.size, val', sh', hm5, by rw [ext_from, e1]; rfl, e2'⟩, OwnK.base hr5 (Nat.zero_le _), HN.out⟩ ⟨hP _ (by have := hBw1.size; omega), Ne.symm hMm, ?_⟩ (fun g hg => ⟨hP _ (by have := own_ge hr5 g hg; have := hBw1.size; omega), ?_, ?_⟩) fun i c' k hc' hk => ?_
    · intro e; simp [Value.ownBlock] at e; omega
    · have := own_ge hr5 g hg; omega
    · intro e; simp [Value.ownBlock] at e; have := hrlt g hg; omega
    · have h1 := (HK.out i c' k hc' hk).keep hkX (fun x hx => by simp; exact hx.2.1)
      have h2 := h1.keep hkM (fun x hx => by simp; have := hx.1.2; omega)
      refine h2.mono fun x hx _ => ⟨hx.1.1, ?_, ?_⟩
      · have := hx.1.2; omega
      · intro e; simp [Value.ownBlock] at e; have := hx.1.2; have := hBw1.size; omega
end Go.Proofs.Ytimhdegdmdilaaa
/- Put and Drop, one node down: plain mathematics. -/
namespace Go.Proofs.Ytimhdegdmdilaaa
open Go.RowKit Go.Lib
set_option linter.unusedVariables false
set_option maxRecDepth 100000
set_option linter.unusedSimpArgs false
set_option linter.unnecessarySimpa false
set_option maxRecDepth 100000
section
variable {l : List UInt8} {v : Option ByteArray} {ks : List RX} {b : UInt8} {s : List UInt8} {w : ByteArray} {n : Nat}
theorem take_mem_at {xs : List RX} {i : Nat} {a : RX} (h : a ∈ xs.take i) : ∃ j, j < i ∧ j < xs.length ∧ rat xs j = a := by
  obtain ⟨j, hj, e⟩ := List.mem_iff_getElem.1 h
  simp only [List.length_take] at hj
  refine ⟨j, by omega, by omega, ?_⟩
  rw [List.getElem_take] at e
  have := rat_get (ks := xs) (j := j) (by omega)
  rw [List.getElem?_eq_getElem (by omega), e] at this
  exact (Option.some.inj this).symm
theorem drop_mem_at {xs : List RX} {i : Nat} {a : RX} (h : a ∈ xs.drop i) : ∃ j, i ≤ j ∧ j < xs.length ∧ rat xs j = a := by
  obtain ⟨j, hj, e⟩ := List.mem_iff_getElem.1 h
  simp only [List.length_drop] at hj
  refine ⟨i + j, by omega, by omega, ?_⟩
  rw [List.getElem_drop] at e
  have := rat_get (ks := xs) (j := i + j) (by omega)
  rw [List.getElem?_eq_getElem (by omega), e] at this
  exact (Option.some.inj this).symm
theorem rat_mem {xs : List RX} {j : Nat} (h : j < xs.length) : rat xs j ∈ xs := List.mem_of_getElem? (rat_get h)
theorem pos_new (hr : ks.Pairwise (fun a b => fst? a < fst? b)) (h : isR ks n = false) : (∀ a ∈ ks.take (posR ks n), fst? a < n) ∧ ∀ b ∈ ks.drop (posR ks n), n < fst? b := by
  refine ⟨fun a ha => ?_, fun a ha => ?_⟩
  · obtain ⟨j, h1, h2, rfl⟩ := take_mem_at ha
    exact posR_lt ks n j h1
  · obtain ⟨j, h1, h2, rfl⟩ := drop_mem_at ha
    have hge := posR_ge hr n j h1 h2
    unfold isR at h
    simp only [decide_eq_false_iff_not, not_and] at h
    have h0 := h (by omega)
    rcases Nat.lt_or_eq_of_le h1 with hlt | rfl
    · have hge0 := posR_ge hr n (posR ks n) (Nat.le_refl _) (by omega)
      rw [List.pairwise_iff_getElem] at hr
      have h3 := hr _ _ (by omega) h2 hlt
      have g1 := rat_get (ks := ks) (j := posR ks n) (by omega)
      have g2 := rat_get h2
      rw [List.getElem?_eq_some_iff] at g1 g2
      obtain ⟨_, g1⟩ := g1
      obtain ⟨_, g2⟩ := g2
      rw [g1, g2] at h3
      omega
    · omega
theorem pos_old (h : isR ks n = true) : posR ks n < ks.length ∧ fst? (rat ks (posR ks n)) = n := by
  unfold isR at h
  simpa using h
theorem set_split {Q : Nat} (h : Q < ks.length) : ks = ks.take Q ++ rat ks Q :: ks.drop (Q + 1) := by
  have h1 := List.take_append_drop Q ks
  have h2 := List.drop_eq_getElem_cons h
  have g := rat_get h
  rw [List.getElem?_eq_getElem h] at g
  rw [h2, Option.some.inj g] at h1
  exact h1.symm
theorem set_at {Q : Nat} (h : Q < ks.length) (u : RX) : ks.set Q u = ks.take Q ++ u :: ks.drop (Q + 1) := by
  rw [List.set_eq_take_append_cons_drop, if_pos h]
theorem step_new (hc : Can (.node l v ks)) (h : isR ks (b.toNat + 1) = false) : Can (.node l v (insAt ks (posR ks (b.toNat + 1)) (.node (b :: s) (some w) []))) ∧ InsX (b :: s) w (.node l v ks) (.node l v (insAt ks (posR ks (b.toNat + 1)) (.node (b :: s) (some w) []))) := by
  have hr : ks.Pairwise (fun a b => fst? a < fst? b) := hc.rises
  obtain ⟨h1, h2⟩ := pos_new hr h
  clear hr
  generalize posR ks (b.toNat + 1) = Q at *
  have hks := List.take_append_drop Q ks
  have hO : Others b (ks.take Q ++ ks.drop Q) := fun c hm => by
    have hcm : c ∈ ks := by rw [hks] at hm; exact hm
    refine ⟨(hc.kd c hcm).1, ?_⟩
    rcases List.mem_append.1 hm with hm | hm
    · have := h1 c hm; omega
    · have := h2 c hm; omega
  have hf : fst? (.node (b :: s) (some w) []) = b.toNat + 1 := fst_cons (t := .node (b :: s) (some w) []) rfl
  unfold insAt
  have hc' : Can (.node l v (ks.take Q ++ ks.drop Q)) := by rw [hks]; exact hc
  refine ⟨hc'.ins (.mk (by simp) (by simp) (by simp)) ⟨by simp [RX.lab], .inl rfl⟩ (fun a ha => by rw [hf]; exact h1 a ha) (fun a ha => by rw [hf]; exact h2 a ha), ?_⟩
  have := ins_new (l := l) (v := v) (s := s) hO w
  rw [hks] at this
  exact this
theorem fst_lab {t u : RX} (h : t.lab = u.lab) : fst? t = fst? u := by unfold fst?; rw [h]
theorem step_down {k u : RX} {r rest : List UInt8} (hc : Can (.node l v ks)) (h : isR ks (b.toNat + 1) = true) (hk : k = rat ks (posR ks (b.toNat + 1))) (hp : rest = k.lab ++ r) (hu : Can u) (hl : u.lab = k.lab) (hx : InsX r w k u) :
    Can (.node l v (ks.set (posR ks (b.toNat + 1)) u)) ∧ InsX rest w (.node l v ks) (.node l v (ks.set (posR ks (b.toNat + 1)) u)) := by
  obtain ⟨h1, h2⟩ := pos_old h
  generalize posR ks (b.toNat + 1) = Q at *
  subst hk
  have hs := set_split h1
  rw [set_at h1]
  have hm := rat_mem h1
  have hc' : Can (.node l v (ks.take Q ++ rat ks Q :: ks.drop (Q + 1))) := by rw [← hs]; exact hc
  obtain ⟨s, hlab⟩ : ∃ s, (rat ks Q).lab = b :: s := by
    cases hl2 : (rat ks Q).lab with
    | nil => exact absurd hl2 (hc.kd _ hm).1
    | cons c s => rw [fst_cons hl2] at h2; exact ⟨s, by rw [show c = b from UInt8.toNat_inj.1 (by omega)]⟩
  refine ⟨hc'.swap hu (ins_kd (hc.kids _ hm) (hc.kd _ hm) hu hl hx) (fst_lab hl), ?_⟩
  have := ins_down (l := l) (v := v) (hc'.others hlab) hlab hl hx
  rw [← hs] at this
  rw [hp]; exact this
theorem step_split {k u : RX} {s : List UInt8} (hc : Can (.node l v ks)) (h : isR ks (b.toNat + 1) = true) (hk : k = rat ks (posR ks (b.toNat + 1))) {c : Nat} (hcm : c = Tw.cmn k.lab (b :: s)) (hlt : c < k.lab.length)
    (hu : Can u) (hl : u.lab = k.lab.take c) (hx : InsX ((b :: s).drop c) w (.node (k.lab.take c) none [.node (k.lab.drop c) k.val k.kids]) u) :
    0 < c ∧ Can (.node l v (ks.set (posR ks (b.toNat + 1)) u)) ∧ InsX (b :: s) w (.node l v ks) (.node l v (ks.set (posR ks (b.toNat + 1)) u)) := by
  obtain ⟨h1, h2⟩ := pos_old h
  generalize posR ks (b.toNat + 1) = Q at *
  subst hk
  have hs := set_split h1
  rw [set_at h1]
  have hm := rat_mem h1
  have hc' : Can (.node l v (ks.take Q ++ rat ks Q :: ks.drop (Q + 1))) := by rw [← hs]; exact hc
  obtain ⟨s', hlab⟩ : ∃ s, (rat ks Q).lab = b :: s := by
    cases hl2 : (rat ks Q).lab with
    | nil => exact absurd hl2 (hc.kd _ hm).1
    | cons c s => rw [fst_cons hl2] at h2; exact ⟨s, by rw [show c = b from UInt8.toNat_inj.1 (by omega)]⟩
  generalize rat ks Q = k at *
  have hpos : 0 < c := by rw [hcm, hlab]; simp [Tw.cmn]
  obtain ⟨q0, qs, hq⟩ : ∃ q0 qs, k.lab.drop c = q0 :: qs := by
    cases hd : k.lab.drop c with
    | nil => rw [List.drop_eq_nil_iff] at hd; omega
    | cons a r => exact ⟨a, r, rfl⟩
  have hpn : k.lab.take c ≠ [] := by rw [hlab]; cases c with
    | zero => omega
    | succ c => simp
  have hcle := Tw.cmn_le k.lab (b :: s)
  have htk := Tw.cmn_take k.lab (b :: s)
  rw [← hcm] at htk hcle
  have hne : ∀ b' t, (b :: s).drop c = b' :: t → b' ≠ q0 := fun b' t hb e => by
    have e1 := List.take_append_drop c k.lab
    have e2 := List.take_append_drop c (b :: s)
    have h3 := Tw.cmn_at k.lab (b :: s) c htk hcle.1 hcle.2
    rw [hq, hb, e] at h3
    simp [Tw.cmn] at h3
    omega
  have hkd := ins_split hq (hc.kids _ hm) (hc.kd _ hm) hne hpn hu hl hx
  have hfu : fst? u = fst? k := by
    have : ∃ r, u.lab = b :: r := by
      rw [hl, hlab]
      cases c with
      | zero => omega
      | succ c => exact ⟨_, by simp; rfl⟩
    obtain ⟨r, hr⟩ := this
    rw [fst_cons hr, fst_cons hlab]
  refine ⟨hpos, hc'.swap hu hkd hfu, ?_⟩
  have hbl : (RX.node (k.lab.take c) none [.node (k.lab.drop c) k.val k.kids]).lab = b :: (s'.take (c - 1)) := by
    show k.lab.take c = _
    rw [hlab]
    cases c with
    | zero => omega
    | succ c => simp
  have hd := ins_down (l := l) (v := v) («as» := ks.take Q) (bs := ks.drop (Q + 1)) (hc'.others hlab) hbl (show u.lab = (RX.node (k.lab.take c) none [.node (k.lab.drop c) k.val k.kids]).lab from hl) hx
  have hre : (RX.node (k.lab.take c) none [.node (k.lab.drop c) k.val k.kids]).lab ++ (b :: s).drop c = b :: s := by
    show k.lab.take c ++ _ = _
    rw [htk, List.take_append_drop]
  rw [hre] at hd
  intro x
  rw [hd x]
  have hsm := split_mem (l := l) (v := v) («as» := ks.take Q) (bs := ks.drop (Q + 1)) (k := k) (p := k.lab.take c) (q := k.lab.drop c) (List.take_append_drop c k.lab).symm x
  rw [hsm, ← hs]
end
end Go.Proofs.Ytimhdegdmdilaaa
/- put: the end of a key. -/
namespace Go.Proofs.Ytimhdegdmdilaaa
open Go.RowKit Go.Lib
set_option linter.unusedVariables false
set_option maxRecDepth 100000
set_option linter.unusedSimpArgs false
set_option linter.unnecessarySimpa false
set_option maxRecDepth 100000
/-- what put leaves -/
def PutPost (P : Nat → Prop) (base : Nat) (ours : Bool) (b0 : Nat) (t : RX) (rest : List UInt8) (value : ByteArray) (w : World) (e : Ending) (w' : World) : Prop :=
  ∃ b u, e = .returned (at0 b) ∧ (ours = true → b = b0) ∧ MineW P base w' b u ∧ Can u ∧ u.lab = t.lab ∧ InsX rest value t u ∧ Below base w w'
theorem mine_val {P : Nat → Prop} {base m : Nat} {w w' : World} {l : List UInt8} {v u : Option ByteArray} {ks : List RX} {kv : Value} {bs : List Nat} {o : Value} {lab : ByteArray} {sh : Bool} (hN : Nod base w m (.node l v ks) kv bs) (hm : base ≤ m)
    (hk : ∀ (i c : Nat) (k : RX), bs[i]? = some c → ks[i]? = some k → RadW (fun x => P x ∧ x ≠ m ∧ kv.ownBlock ≠ some x) w c k) (hB : Blk w' m 132 #[o, .string lab, .string (u.getD ByteArray.empty), .bool u.isSome, kv, .bool sh]) (hl : lab.data.toList = l) (hK : Keep [m] w w') : MineW P base w' m (.node l u ks) := by
  refine ⟨kv, bs, ⟨⟨o, lab, _, sh, hB, hl, rfl⟩, own_keep hN.row hK (fun x hx => ?_), hN.len⟩, hm, fun i c k hc hk' => (hk i c k hc hk').keep hK fun x hx => by simp; exact hx.2.1⟩
  simp at hx
  subst hx
  obtain ⟨o', lab', val', sh', hb, -⟩ := hN.blk
  exact own_ne hN.row (fun cur e => by unfold Blk at hb; rw [hb] at e; cases e)
theorem keep_below {base m : Nat} {w w' : World} (h : Keep [m] w w') (hm : base ≤ m) (hb : base ≤ w.heap.size) : Below base w w' := h.below hb (fun x hx => by simp at hx; omega)
set_option maxHeartbeats 2000000 in
theorem put_here (P : Nat → Prop) (base b : Nat) (ours : Bool) (t : RX) (tv : Value) (value : ByteArray) (w : World) (hd : DeadT base w tv) (hb : base ≤ w.heap.size) (h : Src P base w ours b t) (hc : Can t) :
    Calls Try.prog 83 #[.agg #[tv], at0 b, .bool ours, .string ⟨#[]⟩, .string value] w (PutPost P base ours b t [] value w) := by
  have hB1 := (Below.refl _ w).alloc (Nat.le_refl _) (.cells #[tv] 126)
  have hs1 : Src P base (w.alloc (.cells #[tv] 126)) ours b t := by
    rcases h with ⟨e, h⟩ | ⟨e, h⟩
    · exact .inl ⟨e, h.below hB1⟩
    · exact .inr ⟨e, h.stay hB1⟩
  have ko := own_any P base b ours t tv _ (hd.stay hB1) (Nat.le_trans hb hB1.size) hs1 (by have := kids_few hc; omega)
  obtain ⟨a, rfl⟩ := hd.form
  clear h hs1 hd
  unfold at0 at ko ⊢
  go_enter Try.func83, Try.ntmps83
  go_wp2_with fail
  refine ko.mono ?_
  rintro e w1 ⟨m, rfl, hmb, hm, hB2⟩
  obtain ⟨kv, bs, hN, hmg, hk⟩ := hm.ex
  cases t with
  | node l v ks =>
  obtain ⟨o, lab, val, sh, e1, e2, hBm, c0, c1, c2, c3, c4, c5⟩ := hN.cells
  have f2 := hBm.frozen 2
  have f3 := hBm.frozen 3
  have hb2 := hBm.set_ 2 (.string value)
  have f3' := hb2.frozen 3
  have c3' : (w1.setCell ⟨m, 2, none⟩ (.string value)).cell? ⟨m, 3, none⟩ = some (.bool v.isSome) := hb2.cell 3
  have hb3 := hb2.set_ 3 (.bool true)
  have hK : Keep [m] w1 ((w1.setCell ⟨m, 2, none⟩ (.string value)).setCell ⟨m, 3, none⟩ (.bool true)) := ((Keep.refl [m] w1).setCell (p := ⟨m, 2, none⟩) (by simp) _).setCell (p := ⟨m, 3, none⟩) (by simp) _
  have HH := Lib.hid hk
  have HN := Lib.hid hN
  have HE := Lib.hid e1
  clear ko hm hk hN hBm hb2 e1 c0 c1 c4 c5
  unfold at0
  go_wp2_with fail
  go_ret
  refine ⟨m, .node l (some value) ks, rfl, hmb, mine_val HN.out hmg HH.out (u := some value) hb3 HE.out hK, hc.val_ _, rfl, ins_here hc value, ?_⟩
  exact (hB1.mono hb).trans ((hB2.mono (Nat.le_trans hb hB1.size)).trans (keep_below hK hmg (Nat.le_trans (Nat.le_trans hb hB1.size) hB2.size)))
end Go.Proofs.Ytimhdegdmdilaaa
/- A region that draws its order, in which the cells that it reads hold till its first store: a law of its own. -/
namespace Go.Proofs.Ytimhdegdmdilaaa
open Go
set_option linter.unusedVariables false
set_option maxRecDepth 100000
section
variable {P : Program} {ops : Array Oper} {Q : Exit → Act → World → Prop} {md : Region.Mode} {S : World → Prop} {st : Nat}
/-- whatever order is picked from here on; S holds behind each operation as long as operation st has not come up -/
def wpAnyL (P : Program) (md : Region.Mode) (ops : Array Oper) (Q : Exit → Act → World → Prop) (S : World → Prop) (st : Nat) : Nat → Array Bool → Act → World → Prop
  | 0, listed, a, w => Region.ready md ops listed = [] ∧ Q .normal a w
  | fuel + 1, listed, a, w =>
    (Region.ready md ops listed = [] → Q .normal a w) ∧
    ∀ i ∈ Region.ready md ops listed, wpOp P ops Q i (fun a' w' => ((listed.setIfInBounds i true).getD st true = false → S w') ∧ wpAnyL P md ops Q S st fuel (listed.setIfInBounds i true) a' w') a w
theorem wpAny_of_late : ∀ (fuel : Nat) (listed : Array Bool) (a : Act) (w : World), wpAnyL P md ops Q S st fuel listed a w → wpAny P md ops Q fuel listed a w
  | 0, _, _, _, h => h
  | fuel + 1, _, _, _, h => ⟨h.1, fun i hi => wpOp_mono (fun a' w' h' => wpAny_of_late fuel _ a' w' h'.2) (h.2 i hi)⟩
/-- does operation st wait for operation i? -/
def waits (md : Region.Mode) (ops : Array Oper) (st i : Nat) : Bool := match ops[st]? with
  | some o => o.after.any fun e => Region.binds md e && e.on == i
  | none => false
theorem waits_not {listed : Array Bool} {i : Nat} (hw : waits md ops st i = true) (hi : listed.getD i true = false) : st ∉ Region.ready md ops listed := by
  intro hs
  obtain ⟨_, os, hos, hall⟩ := mem_ready.1 hs
  unfold waits at hw
  rw [hos] at hw
  simp only [Array.any_eq_true] at hw
  obtain ⟨n, hn, he⟩ := hw
  rw [Bool.and_eq_true] at he
  have h1 := hall os.after[n] (Array.getElem_mem hn) he.1
  have h2 : os.after[n].on = i := by simpa using he.2
  rw [h2] at h1
  rcases Nat.lt_or_ge i listed.size with h' | h'
  · simp [h'] at hi h1; rw [hi] at h1; cases h1
  · simp [Array.getElem?_eq_none h'] at h1
theorem wpAnyL_first {i : Nat} {oi : Oper} {v : Value} (hi : ops[i]? = some oi) (hsel : ∀ (j : Nat) (o : Oper) cs b, ops[j]? = some o → o.op ≠ .select cs b)
    (hQ : ∀ c a w, Q (.panic c) (a.put oi.dst v) w → Q (.panic c) a w) (hne : i ≠ st) (hw : waits md ops st i = true) :
    ∀ (fuel : Nat) (listed : Array Bool) (a : Act) (w : World),
      (∀ j oj, ops[j]? = some oj → j ≠ i → listed.getD j true = false → (∀ e ∈ oj.after, Region.binds md e = true → e.on ≠ i) → oi.apart ops oj = true) →
      i ∈ Region.ready md ops listed → listed.getD st true = false → YieldsIf P ops S oi v a → S w →
      wpAnyL P md ops Q S st fuel (listed.setIfInBounds i true) (a.put oi.dst v) w → wpAnyL P md ops Q S st (fuel + 1) listed a w := by
  intro fuel
  induction fuel with
  | zero =>
    intro listed a w _ hr hst hy hS H
    refine ⟨fun h => (by rw [h] at hr; cases hr), fun j hj => ?_⟩
    by_cases hji : j = i
    · subst hji; exact hy.wpOp hi hS ⟨fun _ => hS, H⟩
    · have := ready_mono hj hji
      rw [H.1] at this
      cases this
  | succ fuel ih =>
    intro listed a w hfree hr hst hy hS H
    refine ⟨fun h => (by rw [h] at hr; cases hr), fun j hj => ?_⟩
    have h0 := (mem_ready.1 hr).1
    by_cases hji : j = i
    · subst hji; exact hy.wpOp hi hS ⟨fun _ => hS, H⟩
    · have hjs : j ≠ st := by
        rintro rfl
        exact waits_not hw (by simpa using h0) hj
      have h1 := H.2 j (ready_mono hj hji)
      obtain ⟨hjun, oj, hoj, hall⟩ := mem_ready.1 hj
      have hnot : ∀ e ∈ oj.after, Region.binds md e = true → e.on ≠ i := fun e he hb heq => by
        have h1 := hall e he hb
        rw [heq] at h1
        rcases Nat.lt_or_ge i listed.size with h' | h'
        · simp [h'] at h0 h1; rw [h0] at h1; cases h1
        · simp [Array.getElem?_eq_none h'] at h1
      have h2 := wpOp_putIf hoj (hfree j oj hoj hji hjun hnot) (fun cs b => hsel i oi cs b hi) (fun cs b => hsel j oj cs b hoj) hQ hy h1
      have hfree' : ∀ k ok, ops[k]? = some ok → k ≠ i → (listed.setIfInBounds j true).getD k true = false →
          (∀ e ∈ ok.after, Region.binds md e = true → e.on ≠ i) → oi.apart ops ok = true := fun k ok hk hki hun hno => by
        refine hfree k ok hk hki ?_ hno
        by_cases hjk : j = k
        · subst hjk; exact hjun
        · rw [getD_set_ne true hjk] at hun; exact hun
      have hst2 : (listed.setIfInBounds j true).getD st true = false := by rw [getD_set_ne true hjs]; exact hst
      have hst3 : ((listed.setIfInBounds i true).setIfInBounds j true).getD st true = false := by rw [getD_set_ne true hjs, getD_set_ne true hne]; exact hst
      refine wpOp_mono (fun a' w' h3 => ⟨fun _ => h3.2.1 hst3, ih (listed.setIfInBounds j true) a' w' hfree' (ready_mono hr (Ne.symm hji)) hst2 h3.1 (h3.2.1 hst3) ?_⟩) h2
      rw [Array.setIfInBounds_comm _ _ hji]
      exact h3.2.2
/-- an operation that looks at no cell may be taken first at any time -/
theorem wpAnyL_first0 {i : Nat} {oi : Oper} {v : Value} (hi : ops[i]? = some oi) (hsel : ∀ (j : Nat) (o : Oper) cs b, ops[j]? = some o → o.op ≠ .select cs b)
    (hQ : ∀ c a w, Q (.panic c) (a.put oi.dst v) w → Q (.panic c) a w) (hne : i ≠ st) :
    ∀ (fuel : Nat) (listed : Array Bool) (a : Act) (w : World),
      (∀ j oj, ops[j]? = some oj → j ≠ i → listed.getD j true = false → (∀ e ∈ oj.after, Region.binds md e = true → e.on ≠ i) → oi.apart ops oj = true) →
      i ∈ Region.ready md ops listed → YieldsIf P ops (fun _ => True) oi v a → (listed.getD st true = false → S w) →
      wpAnyL P md ops Q S st fuel (listed.setIfInBounds i true) (a.put oi.dst v) w → wpAnyL P md ops Q S st (fuel + 1) listed a w := by
  intro fuel
  induction fuel with
  | zero =>
    intro listed a w _ hr hy hS H
    refine ⟨fun h => (by rw [h] at hr; cases hr), fun j hj => ?_⟩
    by_cases hji : j = i
    · subst hji; exact hy.wpOp hi trivial ⟨fun h => hS (by rw [getD_set_ne true hne] at h; exact h), H⟩
    · have := ready_mono hj hji
      rw [H.1] at this
      cases this
  | succ fuel ih =>
    intro listed a w hfree hr hy hS H
    refine ⟨fun h => (by rw [h] at hr; cases hr), fun j hj => ?_⟩
    have h0 := (mem_ready.1 hr).1
    by_cases hji : j = i
    · subst hji; exact hy.wpOp hi trivial ⟨fun h => hS (by rw [getD_set_ne true hne] at h; exact h), H⟩
    · have h1 := H.2 j (ready_mono hj hji)
      obtain ⟨hjun, oj, hoj, hall⟩ := mem_ready.1 hj
      have hnot : ∀ e ∈ oj.after, Region.binds md e = true → e.on ≠ i := fun e he hb heq => by
        have h1 := hall e he hb
        rw [heq] at h1
        rcases Nat.lt_or_ge i listed.size with h' | h'
        · simp [h'] at h0 h1; rw [h0] at h1; cases h1
        · simp [Array.getElem?_eq_none h'] at h1
      have h2 := wpOp_putIf hoj (hfree j oj hoj hji hjun hnot) (fun cs b => hsel i oi cs b hi) (fun cs b => hsel j oj cs b hoj) hQ hy h1
      have hfree' : ∀ k ok, ops[k]? = some ok → k ≠ i → (listed.setIfInBounds j true).getD k true = false →
          (∀ e ∈ ok.after, Region.binds md e = true → e.on ≠ i) → oi.apart ops ok = true := fun k ok hk hki hun hno => by
        refine hfree k ok hk hki ?_ hno
        by_cases hjk : j = k
        · subst hjk; exact hjun
        · rw [getD_set_ne true hjk] at hun; exact hun
      have hst3 : (listed.setIfInBounds j true).getD st true = false → ((listed.setIfInBounds i true).setIfInBounds j true).getD st true = false := fun h => by
        rw [Array.setIfInBounds_comm _ _ (Ne.symm hji), getD_set_ne true hne]; exact h
      refine wpOp_mono (fun a' w' h3 => ⟨fun h => h3.2.1 (hst3 h), ih (listed.setIfInBounds j true) a' w' hfree' (ready_mono hr (Ne.symm hji)) h3.1 (fun h => h3.2.1 (hst3 h)) ?_⟩) h2
      rw [Array.setIfInBounds_comm _ _ hji]
      exact h3.2.2
/-- a read that operation st waits for is taken first -/
theorem wpAnyL_take {i : Nat} {oi : Oper} {v : Value} {fuel : Nat} {listed : Array Bool} {a : Act} {w : World} (hi : ops[i]? = some oi)
    (hs : Region.noSelect ops = true) (hf : Region.free md ops listed i = true) (hr : (Region.ready md ops listed).contains i = true)
    (hk : (decide (i ≠ st) && waits md ops st i && !(listed.getD st true)) = true)
    (hQ : ∀ c a w, Q (.panic c) (a.put oi.dst v) w → Q (.panic c) a w) (hS : S w) (hy : YieldsIf P ops S oi v a)
    (h : wpAnyL P md ops Q S st fuel (listed.setIfInBounds i true) (a.put oi.dst v) w) : wpAnyL P md ops Q S st (fuel + 1) listed a w := by
  simp only [Bool.and_eq_true, decide_eq_true_eq, Bool.not_eq_true'] at hk
  exact wpAnyL_first hi (Region.noSelect_spec hs) hQ hk.1.1 hk.1.2 fuel listed a w (Region.free_spec hi hf) (by simpa using hr) hk.2 hy hS h
/-- what looks at no cell -/
theorem wpAnyL_take0 {i : Nat} {oi : Oper} {v : Value} {fuel : Nat} {listed : Array Bool} {a : Act} {w : World} (hi : ops[i]? = some oi)
    (hs : Region.noSelect ops = true) (hf : Region.free md ops listed i = true) (hr : (Region.ready md ops listed).contains i = true)
    (hk : decide (i ≠ st) = true)
    (hQ : ∀ c a w, Q (.panic c) (a.put oi.dst v) w → Q (.panic c) a w) (hS : S w) (hy : YieldsIf P ops (fun _ => True) oi v a)
    (h : wpAnyL P md ops Q S st fuel (listed.setIfInBounds i true) (a.put oi.dst v) w) : wpAnyL P md ops Q S st (fuel + 1) listed a w :=
  wpAnyL_first0 hi (Region.noSelect_spec hs) hQ (of_decide_eq_true hk) fuel listed a w (Region.free_spec hi hf) (by simpa using hr) hy (fun _ => hS) h
/-- whichever of those that may come up comes up -/
def AllReadyL (P : Program) (md : Region.Mode) (ops : Array Oper) (Q : Exit → Act → World → Prop) (S : World → Prop) (st : Nat) (fuel : Nat) (listed : Array Bool) (a : Act) (w : World) (rs : List Nat) : Prop :=
  ∀ i ∈ rs, wpOp P ops Q i (fun a' w' => ((listed.setIfInBounds i true).getD st true = false → S w') ∧ wpAnyL P md ops Q S st fuel (listed.setIfInBounds i true) a' w') a w
theorem AllReadyL.nil {fuel : Nat} {listed : Array Bool} {a : Act} {w : World} : AllReadyL P md ops Q S st fuel listed a w [] := fun _ h => by cases h
theorem AllReadyL.cons {fuel : Nat} {listed : Array Bool} {a : Act} {w : World} {i : Nat} {o : Oper} {rs : List Nat} (ho : ops[i]? = some o)
    (h : ∀ K' : Act → World → Prop, Shut (∀ a w, ((listed.setIfInBounds i true).getD st true = false → S w) → wpAnyL P md ops Q S st fuel (listed.setIfInBounds i true) a w → K' a w) → if Region.wanted o (yielded ops a.tmps) = true then Oper.wp P o a w K' Q else K' (a.put o.dst undef) w)
    (hs : AllReadyL P md ops Q S st fuel listed a w rs) : AllReadyL P md ops Q S st fuel listed a w (i :: rs) := fun j hj => by
  rcases List.mem_cons.1 hj with rfl | hj
  · exact wpOp_step ho (fun K' hK => h K' (fun a w hS hW => hK a w ⟨hS, hW⟩))
  · exact hs j hj
theorem wpAnyL_ready {rs : List Nat} {fuel : Nat} {listed : Array Bool} {a : Act} {w : World} (hr : Region.ready md ops listed = rs) (hne : rs ≠ [])
    (h : AllReadyL P md ops Q S st fuel listed a w rs) : wpAnyL P md ops Q S st (fuel + 1) listed a w :=
  ⟨fun h0 => absurd (hr ▸ h0) hne, by rw [hr]; exact h⟩
theorem wpAnyL_done {listed : Array Bool} {a : Act} {w : World} (hr : Region.ready md ops listed = []) (h : Q .normal a w) :
    ∀ fuel, wpAnyL P md ops Q S st fuel listed a w
  | 0 => ⟨hr, h⟩
  | _ + 1 => ⟨fun _ => h, by rw [hr]; simp⟩
theorem wp_region_late {id : Nat} {a : Act} {w : World} (hm : P.follows .mixedOrders = true)
    (h : wpAnyL P .any ops Q S st ops.size (Array.replicate ops.size false) a w.drew) : (Code.region id ops true).wp P Q a w :=
  wp_region_any hm (wpAny_of_late _ _ _ _ h)
end
end Go.Proofs.Ytimhdegdmdilaaa
