/- Where a key stands in a rising list: the binary search of package slices, Find of package pair, Find of the reference. -/
import Derived.Test.YtchimfgbdfmegaaGreatGaf
import Derived.Test.YtchimfgbdfmegaaGreatGab
import Derived.OpenShut
namespace Go.Proofs.YtchimfgbdfmegaaGreat
open Go.RowKit Go.Lib
set_option linter.unusedVariables false
set_option maxRecDepth 100000
set_option maxRecDepth 100000
set_option linter.unusedSimpArgs false
/-- how many keys stand ahead of a key -/
def posK : List Pr → ByteArray → Nat
  | [], _ => 0
  | q :: r, k => if ltB q.1 k = true then posK r k + 1 else 0
/-- whether it is there -/
def isK (xs : List Pr) (k : ByteArray) : Bool := decide (posK xs k < xs.length ∧ (pat xs (posK xs k)).1 = k)
theorem posK_le (xs : List Pr) (k : ByteArray) : posK xs k ≤ xs.length := by
  induction xs with
  | nil => simp [posK]
  | cons q r ih => unfold posK; split <;> simp; exact ih
theorem pat_succ (q : Pr) (r : List Pr) (j : Nat) : pat (q :: r) (j + 1) = pat r j := by simp [pat]
theorem pat_zero (q : Pr) (r : List Pr) : pat (q :: r) 0 = q := by simp [pat]
theorem posK_lt (xs : List Pr) (k : ByteArray) (j : Nat) (h : j < posK xs k) : Lt (pat xs j).1 k := by
  induction xs generalizing j with
  | nil => simp [posK] at h
  | cons q r ih =>
    unfold posK at h
    split at h
    · rename_i hq
      cases j with
      | zero => rw [pat_zero]; exact (ltB_iff _ _).1 hq
      | succ j => rw [pat_succ]; exact ih j (by omega)
    · omega
theorem posK_not (xs : List Pr) (k : ByteArray) (h : posK xs k < xs.length) : ¬ Lt (pat xs (posK xs k)).1 k := by
  induction xs with
  | nil => simp at h
  | cons q r ih =>
    unfold posK at h ⊢
    split at h
    · rename_i hq
      rw [if_pos hq, pat_succ]
      exact ih (by simpa using h)
    · rename_i hq
      rw [if_neg hq, pat_zero]
      exact fun hl => hq ((ltB_iff _ _).2 hl)
theorem rises_at {xs : List Pr} (h : RisesL xs) {i j : Nat} (hij : i < j) (hj : j < xs.length) : Lt (pat xs i).1 (pat xs j).1 := by
  have := (List.pairwise_iff_getElem.1 h) i j (by omega) hj hij
  simpa [pat, hj, (by omega : i < xs.length)] using this
theorem posK_ge {xs : List Pr} (hr : RisesL xs) (k : ByteArray) (j : Nat) (h : posK xs k ≤ j) (hj : j < xs.length) : ¬ Lt (pat xs j).1 k := by
  rcases Nat.lt_or_eq_of_le h with h | h
  · exact fun hl => posK_not xs k (by omega) ((rises_at hr h hj).trans hl)
  · subst h; exact posK_not xs k hj
theorem isK_eq (xs : List Pr) (k : ByteArray) (h : posK xs k < xs.length) : isK xs k = (cmpS (pat xs (posK xs k)).1 k == 0) := by
  unfold isK
  by_cases e : (pat xs (posK xs k)).1 = k
  · rw [(cmpS_zero _ _).2 e]; simp [h, e]
  · have : cmpS (pat xs (posK xs k)).1 k ≠ 0 := fun h0 => e ((cmpS_zero _ _).1 h0)
    simp [e, this]
theorem isK_bytes (xs : List Pr) (k : ByteArray) (h : posK xs k < xs.length) : isK xs k = ((pat xs (posK xs k)).1.toList == k.toList) := by
  unfold isK
  by_cases e : (pat xs (posK xs k)).1 = k
  · simp [h, e]
  · have : (pat xs (posK xs k)).1.toList ≠ k.toList := fun h0 => e (bytes_ext (by rw [ByteArray.toList_eq, ByteArray.toList_eq] at h0; exact h0))
    simp [e, this]
theorem isK_end (xs : List Pr) (k : ByteArray) (h : ¬ posK xs k < xs.length) : isK xs k = false := by unfold isK; simp [h]
/-- the function that Find compares by, as a value -/
def fn48 : Value := .func (.func 100) #[] #[]

set_option maxRecDepth 100000 in
set_option maxHeartbeats 8000000 in
theorem bsearch (A : Option Addr) (c : Nat) (xs : List Pr) (k : ByteArray) (w : World) (hR : Rd w A xs) (hn : xs.length ≤ 1000) (hr : RisesL xs) :
    Calls Tryz.prog 99 #[.slice A xs.length c, .string k, fn48] w fun e w' => e = .returned (.tuple #[.int .i64 (posK xs k), .bool (isK xs k)]) ∧ Below w.heap.size w w' := by
  obtain ⟨N, hN⟩ : ∃ N, N = xs.length := ⟨_, rfl⟩
  obtain ⟨P, hP⟩ : ∃ P, P = posK xs k := ⟨_, rfl⟩
  have hPN : P ≤ N := by rw [hP, hN]; exact posK_le _ _
  rw [← hN] at hn ⊢
  rw [← hP]
  have HN := Lib.hid hN
  have HP := Lib.hid hP
  have HR := Lib.hid hR
  have HS := Lib.hid hr
  clear hN hP hR hr
  unfold fn48
  go_enter Tryz.func99, Tryz.ntmps99
  go_wp2_with fail
  go_loopw [9, 10] (fun vi vj wr => ∃ (i j : Nat), vi = .int .i64 i ∧ vj = .int .i64 j ∧ i ≤ P ∧ P ≤ j ∧ j ≤ N ∧ Below w.heap.size w wr) (fun vi vj wr => (intOf vj).toNat - (intOf vi).toNat)
  case atStart => exact ⟨0, N, rfl, rfl, Nat.zero_le _, hPN, Nat.le_refl _, Below.refl _ _⟩
  case round =>
    obtain ⟨i, j, rfl, rfl, hi, hij, hj, hB⟩ := hrel
    have hRd := HR.out.below hB
    by_cases hlt : i < j
    · obtain ⟨h, hh⟩ : ∃ h, h = (i + j) / 2 := ⟨_, rfl⟩
      have B1 : i ≤ h ∧ h < j := by omega
      have E1 : IntKind.i64.wrap ((i : Int) + (j : Int)) = (i : Int) + (j : Int) := IntWalk.i64_in _ (by omega)
      have E2 : ((i : Int) + (j : Int)) / 2 = (h : Int) := by omega
      have E3 : IntKind.i64.wrap ((h : Int) + 1) = ((h + 1 : Nat) : Int) := by rw [IntWalk.i64_in _ (by omega)]; omega
      clear hh
      obtain ⟨g, off, rfl, c0, c1⟩ := hRd.at h (by have := HN.out; omega)
      have B2 : (h : Int) < (N : Int) := by omega
      clear hRd
      go_wp2_with fail
      refine (cmp48 (pat xs h) k _).mono ?_
      rintro e w1 ⟨rfl, hb1⟩
      have hB1 := hB.trans (hb1.mono hB.size)
      clear hb1 hB c0 c1
      by_cases hcmp : cmpS (pat xs h).1 k < 0
      · have S : h + 1 ≤ P := by
          rcases Nat.lt_or_ge h P with q | q
          · exact q
          · exact absurd hcmp (posK_ge HS.out k h (by rw [← HP.out]; exact q) (by rw [← HN.out]; omega))
        go_wp2_with fail
        refine ⟨⟨h + 1, j, by go_num, rfl, S, hij, hj, hB1⟩, ?_⟩
        simp [intOf]; omega
      · have S : P ≤ h := by
          rcases Nat.lt_or_ge h P with q | q
          · exact absurd (posK_lt xs k h (by rw [← HP.out]; exact q)) hcmp
          · exact q
        have hge : 0 ≤ cmpS (pat xs h).1 k := by omega
        go_wp2_with fail
        refine ⟨⟨i, h, rfl, rfl, hi, S, by omega, hB1⟩, ?_⟩
        simp [intOf]; omega
    · obtain rfl : i = P := by omega
      by_cases hend : i < N
      · obtain ⟨g, off, rfl, c0, c1⟩ := hRd.at i (by have := HN.out; omega)
        have B2 : (i : Int) < (N : Int) := by omega
        clear hRd
        have HI := Lib.hid (isK_eq xs k (by rw [← HP.out, ← HN.out]; exact hend))
        go_wp2_with fail
        refine (cmp48 (pat xs i) k _).mono ?_
        rintro e w1 ⟨rfl, hb1⟩
        have hB1 := hB.trans (hb1.mono hB.size)
        clear hb1 hB c0 c1
        go_wp2_with fail
        go_ret2
        have e1 := HI.out
        rw [← HP.out] at e1
        rw [e1]
        exact ⟨rfl, hB1⟩
      · have HI := Lib.hid (isK_end xs k (by rw [← HP.out, ← HN.out]; exact hend))
        have B2 : ¬ ((i : Int) < (N : Int)) := by omega
        go_wp2_with fail
        go_ret2
        rw [HI.out]
        exact ⟨rfl, hB⟩
set_option maxRecDepth 100000 in
set_option maxHeartbeats 2000000 in
theorem find_any (A : Option Addr) (c : Nat) (xs : List Pr) (k : ByteArray) (w : World) (hR : Rd w A xs) (hn : xs.length ≤ 1000) (hr : RisesL xs) :
    Calls Tryz.prog 67 #[.slice A xs.length c, .string k] w fun e w' => e = .returned (.tuple #[.int .i64 (posK xs k), .bool (isK xs k)]) ∧ Below w.heap.size w w' := by
  have hb := bsearch A c xs k w hR hn hr
  unfold fn48 at hb
  go_enter Tryz.func67, Tryz.ntmps67
  go_wp2_with fail
  refine hb.mono ?_
  rintro e w1 ⟨rfl, hB⟩
  go_wp2_with fail
  go_ret2
  exact ⟨rfl, hB⟩
end Go.Proofs.YtchimfgbdfmegaaGreat
/- The reference's Find; what stands around a key in a rising list. -/
namespace Go.Proofs.YtchimfgbdfmegaaGreat
open Go.RowKit Go.Lib
set_option linter.unusedVariables false
set_option maxRecDepth 100000
set_option maxRecDepth 100000
set_option linter.unusedSimpArgs false
/-- those less than a key -/
def lessK (xs : List Pr) (k : ByteArray) : List Pr := xs.take (posK xs k)
/-- those greater -/
def moreK (xs : List Pr) (k : ByteArray) : List Pr := xs.drop (posK xs k + if isK xs k = true then 1 else 0)
theorem Rd.take {w : World} {A : Option Addr} {xs : List Pr} (h : Rd w A xs) (n : Nat) : Rd w A (xs.take n) := fun j p hj => by
  rw [List.getElem?_take] at hj
  split at hj
  · exact h j p hj
  · cases hj
theorem Rd.drop {w : World} {g off : Nat} {xs : List Pr} (h : Rd w (some ⟨g, off, none⟩) xs) (n : Nat) : Rd w (some ⟨g, off + n * 2, none⟩) (xs.drop n) := fun j p hj => by
  rw [List.getElem?_drop] at hj
  obtain ⟨g', off', e, h1, h2⟩ := h (n + j) p hj
  simp at e
  obtain ⟨rfl, rfl⟩ := e
  refine ⟨_, _, rfl, ?_, ?_⟩
  · rw [show off + n * 2 + j * 2 = off + (n + j) * 2 by omega]; exact h1
  · rw [show off + n * 2 + j * 2 + 1 = off + (n + j) * 2 + 1 by omega]; exact h2
/-- what is told of those around a key -/
def AroundPost (xs : List Pr) (k : ByteArray) (w : World) (e : Ending) (w' : World) : Prop :=
  ∃ A1 c1 A2 c2, e = .returned (.tuple #[.slice A1 (lessK xs k).length c1, .slice A2 (moreK xs k).length c2]) ∧ Rd w' A1 (lessK xs k) ∧ Rd w' A2 (moreK xs k) ∧ (A1 = none → c1 = 0) ∧ (A2 = none → c2 = 0) ∧ Below w.heap.size w w'
theorem around_end {A : Option Addr} {c P Q : Nat} {xs : List Pr} {k : ByteArray} {w w' : World} (hR : Rd w' A xs) (hB : Below w.heap.size w w') (hP : P = posK xs k) (hQ : Q = posK xs k + if isK xs k = true then 1 else 0) (hPN : P ≤ xs.length) (hc : xs.length ≤ c) (h00 : A = none → c = 0) (n : Nat) (A2 : Option Addr) (hA2 : A2 = if c = Q then A else A.map (·.add (Q * 2))) :
    AroundPost xs k w (.returned (.tuple #[.slice A P c, .slice A2 (xs.length - Q) (c - Q)])) (w'.drewN n) := by
  have e1 : (lessK xs k).length = P := by unfold lessK; rw [List.length_take, ← hP]; omega
  have e2 : (moreK xs k).length = xs.length - Q := by unfold moreK; rw [List.length_drop, ← hQ]
  refine ⟨A, c, A2, c - Q, by rw [e1, e2], (hR.take _).drewN n, ?_, h00, (fun hn => by
    subst hA2
    split at hn
    · rw [h00 hn]; simp
    · rw [h00 (by simpa using hn)]; simp), ⟨hB.os, hB.tape, hB.output, hB.size, hB.block⟩⟩
  refine Rd.drewN (w := w') ?_ n
  unfold moreK
  rw [← hQ]
  by_cases h0 : xs.length ≤ Q
  · rw [List.drop_eq_nil_of_le h0]
    intro j p hj
    simp at hj
  · obtain ⟨g, off, rfl⟩ := hR.starts (by omega)
    rw [if_neg (by omega)] at hA2
    rw [hA2, Option.map_some, addr_add]
    exact hR.drop Q
end Go.Proofs.YtchimfgbdfmegaaGreat
/- Put and Drop of package pair. -/
namespace Go.Proofs.YtchimfgbdfmegaaGreat
open Go.RowKit Go.Lib
set_option linter.unusedVariables false
set_option maxRecDepth 100000
set_option maxRecDepth 100000
set_option linter.unusedSimpArgs false
theorem lessK_cons (q : Pr) (r : List Pr) (k : ByteArray) : lessK (q :: r) k = if ltB q.1 k = true then q :: lessK r k else [] := by
  unfold lessK
  rw [posK]
  split <;> simp
theorem isK_cons_lt (q : Pr) (r : List Pr) (k : ByteArray) (h : ltB q.1 k = true) : isK (q :: r) k = isK r k := by
  unfold isK
  rw [posK, if_pos h, pat_succ]
  simp
theorem isK_cons_ge (q : Pr) (r : List Pr) (k : ByteArray) (h : ¬ ltB q.1 k = true) : isK (q :: r) k = decide (q.1 = k) := by
  unfold isK
  rw [posK, if_neg h, pat_zero]
  simp
theorem moreK_lt (q : Pr) (r : List Pr) (k : ByteArray) (h : ltB q.1 k = true) : moreK (q :: r) k = moreK r k := by
  unfold moreK
  rw [isK_cons_lt q r k h, posK, if_pos h, Nat.add_right_comm, List.drop_succ_cons]
theorem moreK_eq (q : Pr) (r : List Pr) (k : ByteArray) (h : ¬ ltB q.1 k = true) (he : q.1 = k) : moreK (q :: r) k = r := by
  unfold moreK
  rw [isK_cons_ge q r k h, posK, if_neg h]
  simp [he]
theorem moreK_gt (q : Pr) (r : List Pr) (k : ByteArray) (h : ¬ ltB q.1 k = true) (he : ¬ q.1 = k) : moreK (q :: r) k = q :: r := by
  unfold moreK
  rw [isK_cons_ge q r k h, posK, if_neg h]
  simp [he]
theorem ltB_not_ne {a b : ByteArray} (h : ¬ ltB a b = true) (he : ¬ a = b) : Lt b a := by
  have h1 : Le b a := not_lt_le (fun hc => h ((ltB_iff _ _).2 hc))
  rcases h1.lt_or_eq with h1 | h1
  · exact h1
  · exact absurd h1.symm he
theorem dropK_id (r : List Pr) (k : ByteArray) (h : ∀ x ∈ r, x.1 ≠ k) : dropK r k = r := by
  unfold dropK
  rw [List.filter_eq_self]
  intro x hx
  simp only [Bool.not_eq_true', beq_eq_false_iff_ne, ne_eq]
  exact fun e => h x hx (bytes_ext (by rw [ByteArray.toList_eq, ByteArray.toList_eq] at e; exact e))
theorem dropK_cons_ne (q : Pr) (r : List Pr) (k : ByteArray) (h : q.1 ≠ k) : dropK (q :: r) k = q :: dropK r k := by
  unfold dropK
  rw [List.filter_cons_of_pos]
  simp only [Bool.not_eq_true', beq_eq_false_iff_ne, ne_eq]
  exact fun e => h (bytes_ext (by rw [ByteArray.toList_eq, ByteArray.toList_eq] at e; exact e))
theorem dropK_cons_eq (q : Pr) (r : List Pr) (k : ByteArray) (h : q.1 = k) : dropK (q :: r) k = dropK r k := by
  unfold dropK
  rw [List.filter_cons_of_neg]
  simp [h]
theorem drop_eq (xs : List Pr) (k : ByteArray) (h : RisesL xs) : lessK xs k ++ moreK xs k = dropK xs k := by
  induction xs with
  | nil => simp [lessK, moreK, dropK]
  | cons q r ih =>
    have h' := List.pairwise_cons.1 h
    rw [lessK_cons]
    by_cases hl : ltB q.1 k = true
    · rw [if_pos hl, moreK_lt q r k hl, List.cons_append, ih h'.2, dropK_cons_ne q r k ((ltB_iff _ _).1 hl).ne]
    · rw [if_neg hl, List.nil_append]
      by_cases he : q.1 = k
      · rw [moreK_eq q r k hl he, dropK_cons_eq q r k he]
        rw [dropK_id r k (fun x hx e => by have := h'.1 x hx; rw [he, e] at this; exact this.ne rfl)]
      · have hq := ltB_not_ne hl he
        rw [moreK_gt q r k hl he, dropK_id]
        intro x hx e
        rcases List.mem_cons.1 hx with hx | hx
        · rw [hx] at e; exact he e
        · have := hq.trans (h'.1 x hx); rw [e] at this; exact this.ne rfl
theorem insK_less (p : Pr) (D : List Pr) (h : ∀ x ∈ D, Lt p.1 x.1) : insK p D = p :: D := by
  cases D with
  | nil => rfl
  | cons q r =>
    unfold insK
    rw [if_pos ((ltB_iff _ _).2 (h q (by simp)))]
theorem put_eq (xs : List Pr) (p : Pr) (h : RisesL xs) : lessK xs p.1 ++ (p :: moreK xs p.1) = putK xs p := by
  induction xs with
  | nil => simp [lessK, moreK, putK, dropK, insK]
  | cons q r ih =>
    have h' := List.pairwise_cons.1 h
    rw [lessK_cons]
    by_cases hl : ltB q.1 p.1 = true
    · have hlt := (ltB_iff _ _).1 hl
      have hn : ¬ ltB p.1 q.1 = true := fun hc => (hlt.trans ((ltB_iff _ _).1 hc)).ne rfl
      rw [if_pos hl, moreK_lt q r p.1 hl, List.cons_append, ih h'.2]
      unfold putK
      rw [dropK_cons_ne q r p.1 hlt.ne]
      rw [insK, if_neg hn]
    · rw [if_neg hl, List.nil_append]
      unfold putK
      rw [← drop_eq (q :: r) p.1 h, lessK_cons, if_neg hl, List.nil_append, insK_less]
      intro x hx
      by_cases he : q.1 = p.1
      · rw [moreK_eq q r p.1 hl he] at hx
        rw [← he]; exact h'.1 x hx
      · have hq := ltB_not_ne hl he
        rw [moreK_gt q r p.1 hl he] at hx
        rcases List.mem_cons.1 hx with hx | hx
        · rw [hx]; exact hq
        · exact hq.trans (h'.1 x hx)
theorem less_le (xs : List Pr) (k : ByteArray) : (lessK xs k).length ≤ xs.length := by unfold lessK; rw [List.length_take]; omega
theorem more_le (xs : List Pr) (k : ByteArray) : (moreK xs k).length ≤ xs.length := by unfold moreK; rw [List.length_drop]; omega
end Go.Proofs.YtchimfgbdfmegaaGreat
/- The changes of a bucket: Put and Drop. -/
namespace Go.Proofs.YtchimfgbdfmegaaGreat
open Go.RowKit Go.Lib
set_option linter.unusedVariables false
set_option maxRecDepth 100000
set_option maxRecDepth 100000
set_option linter.unusedSimpArgs false
attribute [local irreducible] cnt
theorem isK_lt {xs : List Pr} {k : ByteArray} (h : isK xs k = true) : posK xs k < xs.length := by
  unfold isK at h; simp only [decide_eq_true_eq] at h; exact h.1
theorem put_at (xs : List Pr) (p : Pr) (h : RisesL xs) : putAt xs (posK xs p.1) (isK xs p.1) p = putK xs p := by
  rw [← put_eq xs p h]
  unfold putAt insAt lessK moreK
  cases hk : isK xs p.1 with
  | true => simp [List.set_eq_take_append_cons_drop, isK_lt hk]
  | false => simp
theorem dropK_at (xs : List Pr) (k : ByteArray) (h : RisesL xs) : (if isK xs k = true then xs.eraseIdx (posK xs k) else xs) = dropK xs k := by
  rw [← drop_eq xs k h]
  unfold lessK moreK
  cases hk : isK xs k with
  | true => simp [List.eraseIdx_eq_take_drop_succ]
  | false => simp
theorem own_slice {base : Nat} {w : World} {v : Value} {xs : List Pr} (h : Own base w v xs) : ∃ A c, v = .slice A xs.length c ∧ Rd w A xs := by
  obtain ⟨A, c, e, hr, -⟩ := h.rd
  exact ⟨A, c, e, hr⟩
theorem keep2 {w w' : World} {b N : Nat} {v x y : Value} (h : w.cell? ⟨b, 4, none⟩ = some v ∧ w.cell? ⟨N, 0, none⟩ = some x ∧ w.cell? ⟨N, 1, none⟩ = some y) (hb : Below w.heap.size w w') :
    w'.cell? ⟨b, 4, none⟩ = some v ∧ w'.cell? ⟨N, 0, none⟩ = some x ∧ w'.cell? ⟨N, 1, none⟩ = some y :=
  ⟨(hb.cell (World.block_lt_of_cell? w _ h.1)).trans h.1, (hb.cell (World.block_lt_of_cell? w _ h.2.1)).trans h.2.1, (hb.cell (World.block_lt_of_cell? w _ h.2.2)).trans h.2.2⟩
theorem Moves.ofBelow {b : Nat} {p k : Value} {w w1 : World} (h : Below w.heap.size w w1) : Moves b p k p k w w1 := ⟨.refl _ _, .refl _ _, Keep.of_below h⟩
set_option maxRecDepth 100000 in
set_option maxHeartbeats 4000000 in
theorem put_in (base b : Nat) (p : Pr) (ow tk : Option Nat) (lo l : Bool) (d nn : Nat) (pv kv : Value) (xs : List Pr) (ks : List Nat) (w : World) (h : NdV base w b (pt ow) true d nn pv kv xs ks) (ht : TV w tk l) (ho : TV w ow lo) (hr : RisesL xs) (lx : xs.length ≤ 800) (lk : ks.length ≤ 800) (hbase : base ≤ w.heap.size) :
    Calls Tryz.prog 40 #[at0 b, pt tk, p.v] w (ChgPost base (ownB ow tk l) b pv kv (newOw tk l) true d nn (putK xs p) ks w) := by
  have hBe := (Below.refl _ w).alloc (Nat.le_refl _) (.cells #[.string p.1, .string p.2] 52)
  have hbx := Blk.new w 52 #[.string p.1, .string p.2]
  have h1 := h.below hBe
  have ht1 := ht.below hBe
  have ho1 := ho.below hBe
  have HFL := Lib.hid h.footLt
  have HP := Lib.hid (put_at xs p hr)
  have HRi := Lib.hid hr
  unfold Pr.v
  clear h ht ho hr
  go_enter Tryz.func40, Tryz.ntmps40
  go_upto_region 1 with (fail)
  generalize w.alloc (.cells #[.string p.1, .string p.2] 52) = W at *
  obtain ⟨N, hN⟩ : ∃ N, N = w.heap.size := ⟨_, rfl⟩
  rw [← hN] at hbx ⊢
  have HN := Lib.hid hN
  clear hN
  go_wp2_with fail
  refine (isBucket_any base b (pt ow) true d nn pv kv xs ks W h1).mono ?_
  rintro e w' ⟨rfl, rfl⟩
  go_wp2_with fail
  refine (toChange_any base b ow tk lo l true d nn pv kv xs ks W h1 ht1 ho1 lx lk (Nat.le_trans hbase hBe.size)).mono ?_
  rintro e w1 ⟨b1, pv1, kv1, rfl, h2, hc⟩
  have hbx1 : Blk w1 N 52 #[.string p.1, .string p.2] := hbx.keep hc.keep (by
    split
    · exact fun hm => by have := HFL.out N hm; have := HN.out; omega
    · simp)
  have hbf : N ∉ foot b1 pv1 kv1 := fun hm => by
    rcases hc.foot N hm with ⟨_, e⟩ | e
    · have := HFL.out N e; have := HN.out; omega
    · have := hbx.lt; omega
  have hbxd : Blk w1.drew N 52 #[.string p.1, .string p.2] := hbx1
  have h2d : NdV base w1.drew b1 (pt (newOw tk l)) true d nn pv1 kv1 xs ks := h2.drewN 1
  have hc0 := hc.below hBe
  have hcd : Chg (ownB ow tk l) b pv kv b1 pv1 kv1 w w1.drew := ⟨hc0.place, hc0.new, hc0.foot, hc0.keep.drew⟩
  have hbs : base ≤ w1.drew.heap.size := Nat.le_trans hbase hc0.keep.all.size
  obtain ⟨A, c, rfl, hRd⟩ := own_slice h2d.prs
  have e0 : w1.cell? ⟨b1, 4, none⟩ = some (.slice A xs.length c) := h2.blk.cell 4
  have e1 : w1.cell? ⟨N, 0, none⟩ = some (.string p.1) := hbx1.cell 0
  have e2 : w1.cell? ⟨N, 1, none⟩ = some (.string p.2) := hbx1.cell 1
  clear h1 ht1 ho1 hc hc0 hbx hbx1 h2
  unfold at0
  go_wp2_with fail
  go_region_held3 (fun w' : World => w'.cell? ⟨b1, 4, none⟩ = some (.slice A xs.length c) ∧ w'.cell? ⟨N, 0, none⟩ = some (.string p.1) ∧ w'.cell? ⟨N, 1, none⟩ = some (.string p.2)) (first | exact ⟨e0, e1, e2⟩ | exact keep2 (by assumption) hB | go_keep) (first
    | (go_at_call 67; refine (find_any A c xs p.1 _ hRd (by omega) HRi.out).mono ?_; rintro e w2 ⟨rfl, hB⟩; replace h2d := h2d.below hB; replace hbxd := hbxd.below hB; replace hcd := hcd.moves (Moves.ofBelow hB); replace hbs := Nat.le_trans hbs hB.size))
  have g0 : w2.cell? ⟨b1, 4, none⟩ = some (.slice A xs.length c) := h2d.blk.cell 4
  have g1 : w2.cell? ⟨N, 0, none⟩ = some (.string p.1) := hbxd.cell 0
  have g2 : w2.cell? ⟨N, 1, none⟩ = some (.string p.2) := hbxd.cell 1
  have g0' : w2.drew.cell? ⟨b1, 4, none⟩ = some (.slice A xs.length c) := g0
  have g1' : w2.drew.cell? ⟨N, 0, none⟩ = some (.string p.1) := g1
  have g2' : w2.drew.cell? ⟨N, 1, none⟩ = some (.string p.2) := g2
  have h3d : NdV base w2.drew b1 (pt (newOw tk l)) true d nn (.slice A xs.length c) kv1 xs ks := h2d.drewN 1
  have hcd3 : Chg (ownB ow tk l) b pv kv b1 (.slice A xs.length c) kv1 w w2.drew := ⟨hcd.place, hcd.new, hcd.foot, hcd.keep.drew⟩
  have hbs3 : base ≤ w2.drew.heap.size := hbs
  obtain ⟨r, hr⟩ : ∃ r, r = posK xs p.1 := ⟨_, rfl⟩
  obtain ⟨f, hf⟩ : ∃ f, f = isK xs p.1 := ⟨_, rfl⟩
  have hle : r ≤ xs.length := by rw [hr]; exact posK_le _ _
  have hlt : Hid (f = true → r < xs.length) := Lib.hid (fun e => by rw [hr]; exact isK_lt (hf.symm.trans e))
  rw [← hr, ← hf]
  have HR := Lib.hid hr
  have HFF := Lib.hid hf
  clear hr hf hcd h2d hbs hbxd hRd e0 e1 e2 hB
  have hpl := place_pairs base r f (.slice A xs.length c) xs p w2.drew h3d.prs hle hlt.out (by omega) hbs3
  unfold Pr.v at hpl
  go_wp2_with fail
  go_region_with (first
    | (go_at_call 68; refine hpl.mono ?_; rintro e w3 ⟨v', rfl, hO, hso, hK3⟩; rw [HR.out, HFF.out, HP.out] at hO; have hb3 : Blk w3 b1 100 #[pt (newOw tk l), .bool true, .int .u32 d, .int .u32 nn, .slice A xs.length c, kv1] := h3d.blk.keep hK3 (fun hx => by have := h3d.pne; simp at hx; exact this hx); have k4 := hb3.cell 4; have q4 := hb3.frozen 4; simp only [List.getElem?_toArray, List.getElem?_cons_succ, List.getElem?_cons_zero] at k4; obtain ⟨Av, nv, cv, rfl⟩ := hO.form))
  all_goals
    have h4 := h3d.setP (w' := w3) hK3 hO
    have hm4 : Moves b1 (.slice A xs.length c) kv1 (.slice Av nv cv) kv1 w2.drew (w3.setCell ⟨b1, 4, none⟩ (.slice Av nv cv)) := Moves.setCell ⟨hso, .refl _ _, hK3.sub (by intro y hy; simp only [foot, List.mem_cons, List.mem_append]; exact .inr (.inl hy))⟩ _ _
    have hc4 := hcd3.moves hm4
    go_wp2_with fail
    go_ret
    exact ⟨b1, _, _, rfl, h4, hc4⟩
set_option maxRecDepth 100000 in
theorem put_out (base b : Nat) (p : Pr) (o tv : Value) (d nn : Nat) (pv kv : Value) (xs : List Pr) (ks : List Nat) (w : World) (h : NdV base w b o false d nn pv kv xs ks) :
    Calls Tryz.prog 40 #[at0 b, tv, p.v] w fun e w' => e = .returned (at0 b) ∧ Below w.heap.size w w' := by
  have hBe := (Below.refl _ w).alloc (Nat.le_refl _) (.cells #[.string p.1, .string p.2] 52)
  have hc := isBucket_any base b o false d nn pv kv xs ks _ (h.below hBe)
  unfold Pr.v
  unfold at0 at *
  clear h
  go_enter Tryz.func40, Tryz.ntmps40
  go_upto_region 1 with (fail)
  generalize w.alloc (.cells #[.string p.1, .string p.2] 52) = W at *
  go_wp2_with fail
  refine hc.mono ?_
  rintro e w' ⟨rfl, rfl⟩
  go_wp2_with fail
  go_ret
  exact ⟨rfl, hBe⟩
set_option maxRecDepth 100000 in
theorem put_nil (p : Pr) (tv : Value) (w : World) : Calls Tryz.prog 40 #[.pointer none, tv, p.v] w fun e w' => e = .returned (.pointer none) ∧ Below w.heap.size w w' := by
  have hBe := (Below.refl _ w).alloc (Nat.le_refl _) (.cells #[.string p.1, .string p.2] 52)
  have hc := isBucket_nil (w.alloc (.cells #[.string p.1, .string p.2] 52))
  unfold Pr.v
  go_enter Tryz.func40, Tryz.ntmps40
  go_upto_region 1 with (fail)
  generalize w.alloc (.cells #[.string p.1, .string p.2] 52) = W at *
  go_wp2_with fail
  refine hc.mono ?_
  rintro e w' ⟨rfl, rfl⟩
  go_wp2_with fail
  go_ret
  exact ⟨rfl, hBe⟩
end Go.Proofs.YtchimfgbdfmegaaGreat
/- Nodes by what their chunks have. -/
namespace Go.Proofs.YtchimfgbdfmegaaGreat
open Go.RowKit Go.Lib
set_option linter.unusedVariables false
set_option maxRecDepth 100000
set_option maxRecDepth 100000
set_option linter.unusedSimpArgs false
def Slots.P (S : Slots) : Nat → Option Pr := fun i => (S i).p?
def Slots.K (S : Slots) : Nat → Option Nat := fun i => (S i).k?
theorem Slots.P_put (S : Slots) (i : Nat) (x : Sl) : (S.put i x).P i = x.p? ∧ ∀ j, j ≠ i → (S.put i x).P j = S.P j := by
  unfold Slots.P Slots.put
  exact ⟨by simp, fun j hj => by simp [hj]⟩
theorem Slots.K_put (S : Slots) (i : Nat) (x : Sl) : (S.put i x).K i = x.k? ∧ ∀ j, j ≠ i → (S.put i x).K j = S.K j := by
  unfold Slots.K Slots.put
  exact ⟨by simp, fun j hj => by simp [hj]⟩
section
variable {α : Type} {d i : Nat} {f g : Nat → Option α}
theorem set_bits (h : BitsOf d (fun i => (f i).isSome)) (hi : i < 32) (hg : ∀ j, j ≠ i → g j = f j) (b : α) (hb : g i = some b) : BitsOf (d ||| onl (i : Int)) (fun i => (g i).isSome) :=
  h.with_ hi (fun j hj => by rw [hg j hj]) (by rw [hb]; rfl)
theorem clr_bits (h : BitsOf d (fun i => (f i).isSome)) (hi : i < 32) (hg : ∀ j, j ≠ i → g j = f j) (hb : g i = none) : BitsOf (clrB d i) (fun i => (g i).isSome) := by
  unfold clrB
  cases ht : d.testBit i with
  | true => rw [if_pos rfl]; exact h.wo_ hi (fun j hj => by rw [hg j hj]) (by rw [hb]; rfl)
  | false =>
    rw [if_neg (by decide)]
    refine h.same fun j => ?_
    by_cases e : j = i
    · subst e
      have := h.bit j hi
      rw [ht] at this
      rw [hb, ← this]; rfl
    · rw [hg j e]
theorem set_list (h : BitsOf d (fun i => (f i).isSome)) (hi : i < 32) (hg : ∀ j, j ≠ i → g j = f j) (b : α) (hb : g i = some b) : setL d i b (fm f 32) = fm g 32 := by
  unfold setL
  rw [cnt_fm f h i (by omega), h.bit i hi, fm_put f g i b hi hg hb]
theorem clr_list (h : BitsOf d (fun i => (f i).isSome)) (hi : i < 32) (hg : ∀ j, j ≠ i → g j = f j) (hb : g i = none) : clrL d i (fm f 32) = fm g 32 := by
  unfold clrL
  rw [cnt_fm f h i (by omega), h.bit i hi, fm_erase f g i hi hg hb]
end
/-- an inner node -/
def Inn (base : Nat) (w : World) (b : Nat) (ow : Option Nat) (S : Slots) (pv kv : Value) : Prop :=
  ∃ d nn, NdV base w b (pt ow) false d nn pv kv (fm S.P 32) (fm S.K 32) ∧ BitsOf d (fun i => (S.P i).isSome) ∧ BitsOf nn (fun i => (S.K i).isSome)
/-- a bucket -/
def Bck (base : Nat) (w : World) (b : Nat) (ow : Option Nat) (L : List Pr) (pv kv : Value) : Prop := NdV base w b (pt ow) true 0 0 pv kv L [] ∧ RisesL L
def InnPost (base : Nat) (own : Bool) (b : Nat) (pv kv : Value) (ow : Option Nat) (S : Slots) (w : World) (e : Ending) (w' : World) : Prop :=
  ∃ b1 pv1 kv1, e = .returned (at0 b1) ∧ Inn base w' b1 ow S pv1 kv1 ∧ Chg own b pv kv b1 pv1 kv1 w w'
def BckPost (base : Nat) (own : Bool) (b : Nat) (pv kv : Value) (ow : Option Nat) (L : List Pr) (w : World) (e : Ending) (w' : World) : Prop :=
  ∃ b1 pv1 kv1, e = .returned (at0 b1) ∧ Bck base w' b1 ow L pv1 kv1 ∧ Chg own b pv kv b1 pv1 kv1 w w'
theorem fits_of {d nn : Nat} {S : Slots} (h1 : BitsOf d (fun i => (S.P i).isSome)) (h2 : BitsOf nn (fun i => (S.K i).isSome)) (i : Nat) (hi : i < 32) : Fits d nn (fm S.P 32) (fm S.K 32) i where
  hd := h1.lt
  hn := h2.lt
  rd := fun e => by rw [cnt_fm _ h1 i (by omega)]; exact fm_lt _ i hi (by rw [h1.bit i hi] at e; exact e)
  rn := fun e => by rw [cnt_fm _ h2 i (by omega)]; exact fm_lt _ i hi (by rw [h2.bit i hi] at e; exact e)
  ld := by rw [cnt_fm _ h1 i (by omega)]; exact fm_le _ i hi
  ln := by rw [cnt_fm _ h2 i (by omega)]; exact fm_le _ i hi
  lx := by have := fm_len_le S.P 32; omega
  lk := by have := fm_len_le S.K 32; omega
section
variable (base b i : Nat) (ow tk : Option Nat) (lo l : Bool) (S : Slots) (pv kv : Value) (w : World) (h : Inn base w b ow S pv kv) (ht : TV w tk l) (ho : TV w ow lo) (hi : i < 32) (hbase : base ≤ w.heap.size)
include h ht ho hi hbase
theorem Inn.setPair (p : Pr) : Calls Tryz.prog 21 #[at0 b, pt tk, .int .i64 i, p.v] w (InnPost base (ownB ow tk l) b pv kv (newOw tk l) (S.put i (.pr p)) w) := by
  obtain ⟨d, nn, h, h1, h2⟩ := h
  refine (setPair_in base b i p ow tk lo l d nn pv kv _ _ w h ht ho hi (fits_of h1 h2 i hi) hbase).mono ?_
  rintro e w' ⟨b1, pv1, kv1, rfl, h3, hc⟩
  have eP := S.P_put i (.pr p)
  have eK := S.K_put i (.pr p)
  rw [set_list h1 hi eP.2 p eP.1, clr_list h2 hi eK.2 eK.1] at h3
  exact ⟨b1, pv1, kv1, rfl, ⟨_, _, h3, set_bits h1 hi eP.2 p eP.1, clr_bits h2 hi eK.2 eK.1⟩, hc⟩
theorem Inn.setKid (k : Nat) : Calls Tryz.prog 23 #[at0 b, pt tk, .int .i64 i, at0 k] w (InnPost base (ownB ow tk l) b pv kv (newOw tk l) (S.put i (.kd k)) w) := by
  obtain ⟨d, nn, h, h1, h2⟩ := h
  refine (setKid_in base b i k ow tk lo l d nn pv kv _ _ w h ht ho hi (fits_of h1 h2 i hi) hbase).mono ?_
  rintro e w' ⟨b1, pv1, kv1, rfl, h3, hc⟩
  have eP := S.P_put i (.kd k)
  have eK := S.K_put i (.kd k)
  rw [set_list h2 hi eK.2 k eK.1, clr_list h1 hi eP.2 eP.1] at h3
  exact ⟨b1, pv1, kv1, rfl, ⟨_, _, h3, clr_bits h1 hi eP.2 eP.1, set_bits h2 hi eK.2 k eK.1⟩, hc⟩
theorem Inn.clear : Calls Tryz.prog 22 #[at0 b, pt tk, .int .i64 i] w (InnPost base (ownB ow tk l) b pv kv (newOw tk l) (S.put i .no) w) := by
  obtain ⟨d, nn, h, h1, h2⟩ := h
  refine (clear_in base b i ow tk lo l d nn pv kv _ _ w h ht ho hi (fits_of h1 h2 i hi) hbase).mono ?_
  rintro e w' ⟨b1, pv1, kv1, rfl, h3, hc⟩
  have eP := S.P_put i .no
  have eK := S.K_put i .no
  rw [clr_list h2 hi eK.2 eK.1, clr_list h1 hi eP.2 eP.1] at h3
  exact ⟨b1, pv1, kv1, rfl, ⟨_, _, h3, clr_bits h1 hi eP.2 eP.1, clr_bits h2 hi eK.2 eK.1⟩, hc⟩
theorem Inn.setKidNil : Calls Tryz.prog 23 #[at0 b, pt tk, .int .i64 i, .pointer none] w (InnPost base (ownB ow tk l) b pv kv (newOw tk l) (S.put i .no) w) := by
  refine setKid_clear _ _ _ w _ ((Inn.clear base b i ow tk lo l S pv kv w h ht ho hi hbase).mono ?_)
  rintro e w' ⟨b1, pv1, kv1, rfl, h3, hc⟩
  exact ⟨_, rfl, b1, pv1, kv1, rfl, h3, hc⟩
end
section
variable {base : Nat} {w w' : World} {b : Nat} {ow : Option Nat} {S : Slots} {pv kv : Value}
theorem Inn.keep (h : Inn base w b ow S pv kv) {X : List Nat} (hk : Keep X w w') (hX : ∀ x ∈ foot b pv kv, x ∉ X) : Inn base w' b ow S pv kv := by
  obtain ⟨d, nn, h, h1, h2⟩ := h
  exact ⟨d, nn, h.keep hk hX, h1, h2⟩
theorem Inn.below (h : Inn base w b ow S pv kv) (hb : Below w.heap.size w w') : Inn base w' b ow S pv kv := h.keep (Keep.of_below (X := []) hb) (by simp)
theorem Inn.drewN (h : Inn base w b ow S pv kv) (n : Nat) : Inn base (w.drewN n) b ow S pv kv := by
  obtain ⟨d, nn, h, h1, h2⟩ := h
  exact ⟨d, nn, h.drewN n, h1, h2⟩
theorem Inn.footLt (h : Inn base w b ow S pv kv) : ∀ x ∈ foot b pv kv, x < w.heap.size := by
  obtain ⟨d, nn, h, h1, h2⟩ := h
  exact h.footLt
theorem Inn.footGe (h : Inn base w b ow S pv kv) : ∀ x ∈ foot b pv kv, base ≤ x := by
  obtain ⟨d, nn, h, h1, h2⟩ := h
  exact h.footGe
theorem Inn.noTok (h : Inn base w b ow S pv kv) : ∀ x ∈ foot b pv kv, ∀ cs, ¬ Blk w x 107 cs := by
  obtain ⟨d, nn, h, h1, h2⟩ := h
  exact h.noTok
end
theorem Inn.pair (base b i : Nat) (ow : Option Nat) (S : Slots) (pv kv : Value) (w : World) (h : Inn base w b ow S pv kv) (hi : i < 32) : Calls Tryz.prog 80 #[at0 b, .int .i64 i] w (PairPost (S.P i) w) := by
  obtain ⟨d, nn, h, h1, h2⟩ := h
  have hf := fits_of h1 h2 i hi
  cases hp : S.P i with
  | none =>
    have hb : d.testBit i = false := by rw [h1.bit i hi, hp]; rfl
    exact pair_none (at0 b) d i w h1.lt (Lib.hid (by rw [has_bit d i hi]; exact hb)) (fun w' hB => data_any _ _ _ _ _ _ _ _ _ _ w' (h.below hB))
  | some p =>
    have hb : d.testBit i = true := by rw [h1.bit i hi, hp]; rfl
    have hc := pair_some base b (pt ow) false d nn pv kv _ _ w h i hi h1.lt (Lib.hid hb) (hf.rd hb) hf.lx
    have e : pat (fm S.P 32) (cnt i d) = p := by
      rw [cnt_fm _ h1 i (by omega)]
      have := fm_at S.P i p hi hp
      unfold pat
      rw [this]; rfl
    rw [e] at hc
    exact hc
theorem Inn.kid (base b i : Nat) (ow : Option Nat) (S : Slots) (pv kv : Value) (w : World) (h : Inn base w b ow S pv kv) (hi : i < 32) : Calls Tryz.prog 82 #[at0 b, .int .i64 i] w (KidPost (S.K i) w) := by
  obtain ⟨d, nn, h, h1, h2⟩ := h
  have hf := fits_of h1 h2 i hi
  cases hp : S.K i with
  | none =>
    have hb : nn.testBit i = false := by rw [h2.bit i hi, hp]; rfl
    exact kid_none (at0 b) nn i w h2.lt (Lib.hid (by rw [has_bit nn i hi]; exact hb)) (nodes_any _ _ _ _ _ _ _ _ _ _ w h)
  | some k =>
    have hb : nn.testBit i = true := by rw [h2.bit i hi, hp]; rfl
    refine kid_some base b (pt ow) false d nn pv kv _ _ w h i k hi h2.lt (Lib.hid hb) ?_ hf.lk
    rw [cnt_fm _ h2 i (by omega)]
    exact fm_at S.K i k hi hp
theorem Inn.len (base b : Nat) (ow : Option Nat) (S : Slots) (pv kv : Value) (w : World) (h : Inn base w b ow S pv kv) : Calls Tryz.prog 90 #[at0 b] w fun e w' => e = .returned (.int .i64 ((fm S.P 32).length + (fm S.K 32).length : Nat)) ∧ ∃ k, w' = w.drewN k := by
  obtain ⟨d, nn, h, h1, h2⟩ := h
  have hf := fits_of h1 h2 0 (by omega)
  exact len_any base b _ _ _ _ _ _ _ _ w h hf.lx hf.lk
theorem Inn.owned (base b : Nat) (ow tk : Option Nat) (lo l : Bool) (S : Slots) (pv kv : Value) (w : World) (h : Inn base w b ow S pv kv) (ht : TV w tk l) (ho : TV w ow lo) : Calls Tryz.prog 69 #[at0 b, pt tk] w fun e w' => e = .returned (.bool (ownB ow tk l)) ∧ w = w' := by
  obtain ⟨d, nn, h, h1, h2⟩ := h
  exact owned_any base b ow tk lo l false d nn pv kv _ _ w h ht ho
theorem Inn.new (w : World) : Calls Tryz.prog 24 #[] w fun e w' => ∃ b, e = .returned (at0 b) ∧ w.heap.size ≤ b ∧ Inn w.heap.size w' b none (fun _ => .no) (.slice none 0 0) (.slice none 0 0) ∧ Below w.heap.size w w' := by
  refine (inner_any w).mono ?_
  rintro e w' ⟨rfl, h, hB⟩
  have e1 : fm (Slots.P fun _ => .no) 32 = [] := by decide
  have e2 : fm (Slots.K fun _ => .no) 32 = [] := by decide
  exact ⟨_, rfl, Nat.le_refl _, ⟨0, 0, by rw [e1, e2]; exact h, BitsOf.zero (fun _ => rfl), BitsOf.zero (fun _ => rfl)⟩, hB⟩
end Go.Proofs.YtchimfgbdfmegaaGreat
/- Pointers to nodes compared; the example of layer 5 returns true. -/
namespace Go.Proofs.YtchimfgbdfmegaaGreat
open Go.RowKit Go.Lib Go.Conc
set_option linter.unusedVariables false
set_option maxRecDepth 100000
set_option maxRecDepth 100000
set_option linter.unusedSimpArgs false
theorem info98 : ∃ j, Tryz.prog.info? 100 = some j ∧ j.size ≠ 0 := by
  have h : (Tryz.prog.info? 100).map (·.size) = some 6 := by kernel_rfl
  obtain ⟨i, hi, hb⟩ := Option.map_eq_some_iff.1 h
  exact ⟨i, hi, by omega⟩
theorem eql_node_same (b : Nat) (w : World) : (binOp .eql 29 (at0 b) (at0 b)).run Tryz.prog w = .ok (.bool true) w := by
  obtain ⟨j, hj, hs⟩ := info98
  exact run_eql_ptr_same (P := Tryz.prog) (w := w) ⟨b, 0, none⟩ Tryz.underlying29 hj
theorem eql_node_other {a b : Nat} {ca cb : Array Value} {ta tb : TypeId} (w : World) (hne : a ≠ b) (ha : Blk w a ta ca) (hb : Blk w b tb cb) :
    (binOp .eql 29 (at0 a) (at0 b)).run Tryz.prog w = .ok (.bool false) w := by
  obtain ⟨j, hj, hs⟩ := info98
  exact run_eql_ptr_other w Tryz.underlying29 hj hs (fun e => hne (congrArg Addr.block e)) ha hb
theorem neq_node_other {a b : Nat} {ca cb : Array Value} {ta tb : TypeId} (w : World) (hne : a ≠ b) (ha : Blk w a ta ca) (hb : Blk w b tb cb) :
    (binOp .neq 29 (at0 a) (at0 b)).run Tryz.prog w = .ok (.bool true) w := by
  obtain ⟨j, hj, hs⟩ := info98
  unfold at0
  have h : ∀ d : Nat, (Op.equalIn (d + 1) 29 (.pointer (some ⟨a, 0, none⟩)) (.pointer (some ⟨b, 0, none⟩))).run Tryz.prog w = .ok false w := fun d => by
    simp [Op.equalIn, run_underlying Tryz.underlying29, sizeOf, typeInfo, hj, hs, run_sameAddr_other w (a := ⟨a, 0, none⟩) (b := ⟨b, 0, none⟩) (fun e => hne (congrArg Addr.block e)) ha hb]
  simp only [binOp]
  simp [Op.equal, Op.maxDepth, h 9999]
theorem neq_node_same (a : Nat) (w : World) : (binOp .neq 29 (at0 a) (at0 a)).run Tryz.prog w = .ok (.bool false) w := by
  obtain ⟨j, hj, -⟩ := info98
  unfold at0
  have h : ∀ d : Nat, (Op.equalIn (d + 1) 29 (.pointer (some ⟨a, 0, none⟩)) (.pointer (some ⟨a, 0, none⟩))).run Tryz.prog w = .ok true w := fun d => by
    simp [Op.equalIn, run_underlying Tryz.underlying29, sizeOf, typeInfo, hj, run_sameAddr_same]
  simp only [binOp]
  simp [Op.equal, Op.maxDepth, h 9999]
theorem Inn.blk {base : Nat} {w : World} {b : Nat} {ow : Option Nat} {S : Slots} {pv kv : Value} (h : Inn base w b ow S pv kv) : ∃ cs, Blk w b 100 cs := by
  obtain ⟨d, nn, h, -, -⟩ := h
  exact ⟨_, h.blk⟩
theorem Inn.data (base b : Nat) (ow : Option Nat) (S : Slots) (pv kv : Value) (w : World) (h : Inn base w b ow S pv kv) (d : Nat) (hd : BitsOf d (fun i => (S.P i).isSome)) : Calls Tryz.prog 91 #[at0 b] w fun e w' => e = .returned (.int .u32 d) ∧ w = w' := by
  obtain ⟨d', nn, h, h1, h2⟩ := h
  obtain rfl := h1.ext hd
  exact data_any _ _ _ _ _ _ _ _ _ _ w h
theorem Chg.keepNew {b : Nat} {pv kv : Value} {b1 : Nat} {pv1 kv1 : Value} {w w' : World} (h : Chg false b pv kv b1 pv1 kv1 w w') : Below w.heap.size w w' := by
  have := h.keep
  rw [if_neg (by decide)] at this
  exact this.below (Nat.le_refl _) (by simp)
end Go.Proofs.YtchimfgbdfmegaaGreat
/- Opening a pair that was handed in; a pair put into a rising list. -/
namespace Go.Proofs.YtchimfgbdfmegaaGreat
open Go.RowKit Go.Lib
set_option linter.unusedVariables false
set_option maxRecDepth 100000
set_option maxRecDepth 100000
set_option linter.unusedSimpArgs false
theorem put_rises {xs : List Pr} (p : Pr) (h : RisesL xs) : RisesL (putK xs p) :=
  ins_rises p _ (drop_rises xs p.1 h) (fun x hx => ((drop_mem _ _ _).1 hx).2)
set_option maxRecDepth 100000 in
theorem open_pair {H : Type} {enc : TypeId × Value → H} {W : World} {b base : Nat} {spare : Nat → Bool} {held : Bool} {v : Value} {d : DataW H} {p : List MemPlace}
    (hv : Value.okWide Tryz.prog W .any b 52 v) (h : DataW.Trod enc Tryz.prog W base spare held 52 v d p) : ∃ k u, v = .agg #[.string k, .string u] ∧ k.size ≤ maxLen := by
  obtain ⟨f0, f1, hu, o0, o1, t0, t1⟩ := fields33
  obtain ⟨cs, rfl, hsz⟩ := Go.WideShapes.okWide_struct hu hv
  have hc : Tryz.prog.cellsOf 52 = 2 := by kernel_rfl
  have hc9 : Tryz.prog.cellsOf 9 = 1 := by kernel_rfl
  rw [hc] at hsz
  obtain ⟨x, y, rfl⟩ : ∃ x y, cs = #[x, y] := by
    match cs, hsz with
    | ⟨[x, y]⟩, _ => exact ⟨x, y, rfl⟩
  obtain ⟨fuel, hf⟩ := h
  obtain ⟨y0, y1, n, -, -, g0, g1⟩ := Go.ChangeShapes.trod_struct2 hu hf
  rw [o0, t0, hc9] at g0
  rw [o1, t1, hc9] at g1
  simp [Value.cells] at g0 g1
  obtain ⟨s0, hs0, _, hz⟩ := DataW.trod_string Tryz.underlying9 g0
  obtain ⟨s1, hs1, _⟩ := DataW.trod_string Tryz.underlying9 g1
  simp at hs0 hs1
  subst hs0 hs1
  exact ⟨s0, s1, rfl, hz⟩
end Go.Proofs.YtchimfgbdfmegaaGreat
/- Rotated queues, swapped tokens, rows of arguments. -/
namespace Go.Proofs.YtchimfgbdfmegaaGreat
open Go.RowKit Go.Conc Go.ChangeShapes Go.WideShapes
set_option linter.unusedVariables false
set_option maxRecDepth 100000
set_option maxRecDepth 100000
set_option linter.unusedSimpArgs false

/-- the row of ids, turned by i -/
def rot (k i : Nat) : List Nat := (List.range k).map fun m => 1 + (i + m) % k
theorem rot_length (k i : Nat) : (rot k i).length = k := by simp [rot]
theorem rot_zero (k : Nat) : rot k 0 = upto k := by
  apply List.ext_getElem (by simp [rot, upto])
  intro n h1 h2
  simp [rot] at h1
  simp only [rot, upto, List.getElem_map, List.getElem_range, List.getElem_range', Nat.zero_add, Nat.one_mul]
  rw [Nat.mod_eq_of_lt h1]
theorem rot_cons (k i : Nat) (h : 1 ≤ k) : ∃ tl, rot k i = (1 + i % k) :: tl ∧ tl ++ [1 + i % k] = rot k (i + 1) ∧ tl.length < k := by
  obtain ⟨m, rfl⟩ : ∃ m, k = m + 1 := ⟨k - 1, by omega⟩
  refine ⟨(List.range m).map fun j => 1 + (i + (j + 1)) % (m + 1), ?_, ?_, by simp⟩
  · unfold rot
    rw [List.range_succ_eq_map, List.map_cons, List.map_map]
    rfl
  · unfold rot
    rw [List.range_succ, List.map_append]
    congr 1
    · apply List.map_congr_left
      intro a _
      rw [show i + (a + 1) = i + 1 + a by omega]
    · simp only [List.map_cons, List.map_nil]
      rw [show i + 1 + m = i + (m + 1) by omega, Nat.add_mod_right]

/-- a slice of numbers that was handed in -/
def IsRow (k : IntKind) (w : World) (a : Option Addr) (len cap : Nat) (zs : List Int) : Prop :=
  (a = none ∧ len = 0 ∧ cap = 0 ∧ zs = []) ∨
  ∃ x, a = some x ∧ len ≤ cap ∧ cap ≤ maxLen ∧ zs.length = cap ∧ (∀ i, i < zs.length → w.cell? (x.add i) = some (.int k (zs.getD i 0))) ∧ ∀ n ∈ zs, (Lit.int k n).wf = true
theorem IsRow.at {w wr : World} {a : Option Addr} {len cap : Nat} {zs : List Int} (h : IsRow .u8 w a len cap zs) (hB : Below w.heap.size w wr) (j : Nat) (hj : j < len) :
    ∃ x z, a = some x ∧ wr.cell? (x.add j) = some (.int .u8 z) ∧ 0 ≤ z ∧ z ≤ 255 := by
  rcases h with ⟨_, h, _⟩ | ⟨x, rfl, hl, hm, hz, hcell, hwz⟩
  · omega
  · have hc := hcell j (by omega)
    have hw := hwz (zs.getD j 0) (by rw [List.getD_eq_getElem?_getD, List.getElem?_eq_getElem (by omega : j < zs.length)]; exact List.getElem_mem _)
    have hb := bounds_u8 hw
    exact ⟨x, _, rfl, (hB.cell (World.block_lt_of_cell? w _ hc)).trans hc, hb.1, hb.2⟩
theorem IsRow.len_le {w : World} {a : Option Addr} {len cap : Nat} {zs : List Int} (h : IsRow .u8 w a len cap zs) : len ≤ 9223372036854775807 := by
  rcases h with ⟨_, h, _⟩ | ⟨x, rfl, hl, hm, hz, hcell, hwz⟩
  · omega
  · unfold maxLen at hm; omega

/-- all of them are live, from the m-th on -/
def LiveFrom (m : Nat) (L : TL) : Prop := ∀ (i : Nat) (x : Nat × Nat × Bool), L[i]? = some x → m ≤ i → x.2.2 = true
theorem liveFrom_snoc {L : TL} (h : LiveFrom 0 L) (t i : Nat) : LiveFrom 0 (L ++ [(t, i, true)]) := by
  intro j x hx _
  rw [List.getElem?_append] at hx
  split at hx
  · exact h j x hx (Nat.zero_le _)
  · rw [List.getElem?_singleton] at hx
    split at hx
    · obtain rfl := Option.some.inj hx; rfl
    · cases hx
theorem liveFrom_set {L : TL} {m : Nat} (h : LiveFrom m L) (y : Nat × Nat × Bool) : LiveFrom (m + 1) (L.set m y) := by
  intro j x hx hj
  rw [List.getElem?_set_ne (by omega)] at hx
  exact h j x hx (by omega)
theorem liveFrom_swap {L : TL} (h : LiveFrom 0 L) {i j : Nat} {x y : Nat × Nat × Bool} (hx : L[i]? = some x) (hy : L[j]? = some y) : LiveFrom 0 ((L.set i y).set j x) := by
  intro n z hz _
  rw [List.getElem?_set] at hz
  split at hz
  · split at hz
    · obtain rfl := Option.some.inj hz; exact h i _ hx (Nat.zero_le _)
    · cases hz
  · rw [List.getElem?_set] at hz
    split at hz
    · split at hz
      · obtain rfl := Option.some.inj hz; exact h j _ hy (Nat.zero_le _)
      · cases hz
    · exact h n z hz (Nat.zero_le _)
/-- two of them change places -/
theorem Toks.swap {base : Nat} {w : World} {p g cap : Nat} {L : TL} (h : Toks base w p (.slice (some ⟨g, 0, none⟩) L.length cap) L) {i j : Nat} {x y : Nat × Nat × Bool} (hx : L[i]? = some x) (hy : L[j]? = some y) :
    Toks base ((w.setCell ⟨g, i, none⟩ (at0 y.1)).setCell ⟨g, j, none⟩ (at0 x.1)) p (.slice (some ⟨g, 0, none⟩) L.length cap) ((L.set i y).set j x) := by
  obtain ⟨hil, hix⟩ := List.getElem?_eq_some_iff.1 hx
  obtain ⟨hjl, hjy⟩ := List.getElem?_eq_some_iff.1 hy
  have h1 := h.row.stored i (at0 y.1)
  have h2 := h1.1.stored j (at0 x.1)
  have hperm : ((L.set i y).set j x).Perm L := by
    have := List.set_set_perm (i := i) (j := j) hil hjl
    rwa [hix, hjy] at this
  have hno : ∀ t ∈ L, t.1 ≠ g := fun t ht e => by
    obtain ⟨cur, hcur⟩ := own_cells h.row g rfl
    have := (h.tok t ht).1.no57 cur
    rw [e] at this
    exact this hcur
  refine ⟨?_, ?_, ?_⟩
  · rw [List.length_set, List.length_set, List.map_set, List.map_set]
    exact h2.1
  · intro z hz
    have hzL := hperm.mem_iff.1 hz
    have := h.tok z hzL
    exact ⟨Blk.far (Blk.far this.1 (hno z hzL) _) (hno z hzL) _, this.2⟩
  · exact ((hperm.map (·.1)).nodup_iff).2 h.nd
theorem Pool.setRow {base : Nat} {w : World} {p c k n g off : Nat} {out : Int} {q : List Nat} {v : Value} {xs : List Value} (h : Pool w p c k out q) (hrow : w.ownsRow base 69 1 v n xs) (hg : v.ownBlock = some g) (u : Value) : Pool (w.setCell ⟨g, off, none⟩ u) p c k out q := by
  have hn := fun cur => h.no57 cur
  obtain ⟨hb, s, r, hc⟩ := h
  obtain ⟨cur, hcur⟩ := own_cells hrow g hg
  refine ⟨Blk.far hb (fun e => ?_) u, s, r, (Below.heap_setCell w ⟨g, off, none⟩ u c (fun e => ?_)).trans hc⟩
  · simp at e; subst e; exact (hn cur).1 hcur
  · simp at e; subst e; exact (hn cur).2 hcur
end Go.Proofs.YtchimfgbdfmegaaGreat
/- Lists and numbers that were handed in; how many pairs and children a node has; nodes kept. -/
namespace Go.Proofs.YtchimfgbdfmegaaGreat
open Go.RowKit Go.Lib Go.Conc
set_option linter.unusedVariables false
set_option maxRecDepth 100000
set_option maxRecDepth 100000
set_option linter.unusedSimpArgs false

theorem ArgP.at {w wr : World} {a : Option Addr} {len cap : Nat} {ps : List Pr} (h : ArgP w a len cap ps) (hB : Below w.heap.size w wr) (j : Nat) (hj : j < len) :
    ∃ (x : Addr) (p : Pr), a = some x ∧ wr.cell? (x.add (j * 2)) = some (.string p.1) ∧ wr.cell? ⟨(x.add (j * 2)).block, (x.add (j * 2)).off + 1, none⟩ = some (.string p.2) := by
  rcases h with ⟨_, h, _⟩ | ⟨x, rfl, hl, hm, hz, hcell⟩
  · omega
  · have hp := pat_get (xs := ps) (p := j) (by omega)
    have hf := flat_get ps j _ hp
    have c0 := hcell _ _ hf.1
    have c1 := hcell _ _ hf.2
    exact ⟨x, _, rfl, (hB.cell (World.block_lt_of_cell? w _ c0)).trans c0, by rw [show (⟨(x.add (j * 2)).block, (x.add (j * 2)).off + 1, none⟩ : Addr) = (x.add (j * 2)).add 1 from rfl, Addr.add_add]; exact (hB.cell (World.block_lt_of_cell? w _ c1)).trans c1⟩
theorem ArgP.len_le {w : World} {a : Option Addr} {len cap : Nat} {ps : List Pr} (h : ArgP w a len cap ps) : len ≤ 9223372036854775807 := by
  rcases h with ⟨_, h, _⟩ | ⟨x, rfl, hl, hm, hz, hcell⟩
  · omega
  · unfold maxLen at hz; omega
/-- how much is told of a node -/
def tot (S : Slots) : Nat := (fm S.P 32).length + (fm S.K 32).length
theorem tot_le (S : Slots) : tot S ≤ 64 := by
  have := fm_len_le S.P 32
  have := fm_len_le S.K 32
  unfold tot; omega
theorem tot_other (S : Slots) (c : Nat) (p q : Pr) (hc : c < 32) : tot ((S.put c (.pr p)).put c (.pr q)) = tot (S.put c (.pr p)) := by
  have eP := (S.put c (.pr p)).P_put c (.pr q)
  have eK := (S.put c (.pr p)).K_put c (.pr q)
  have e1 := S.P_put c (.pr p)
  have e2 := S.K_put c (.pr p)
  unfold tot
  rw [fm_upd _ _ c hc eP.2, fm_split (S.put c (.pr p)).P c hc, eP.1, e1.1]
  rw [fm_upd _ _ c hc eK.2, fm_split (S.put c (.pr p)).K c hc, eK.1, e2.1]
  simp [Sl.p?, Sl.k?]
theorem tot_clear (S : Slots) (c : Nat) (p : Pr) (hc : c < 32) : tot ((S.put c (.pr p)).put c .no) + 1 = tot (S.put c (.pr p)) := by
  have eP := (S.put c (.pr p)).P_put c .no
  have eK := (S.put c (.pr p)).K_put c .no
  have e1 := S.P_put c (.pr p)
  have e2 := S.K_put c (.pr p)
  unfold tot
  rw [fm_upd _ _ c hc eP.2, fm_split (S.put c (.pr p)).P c hc, eP.1, e1.1]
  rw [fm_upd _ _ c hc eK.2, fm_split (S.put c (.pr p)).K c hc, eK.1, e2.1]
  simp [Sl.p?, Sl.k?]
  omega
theorem Inn.tv {base : Nat} {w : World} {t p id : Nat} {l : Bool} {ow : Option Nat} (ht : Tok w t p id l) (ho : ow = none ∨ ow = some t) : ∃ lo, TV w ow lo := by
  rcases ho with rfl | rfl
  · exact ⟨false, TV.nil _⟩
  · exact ⟨l, TV.tok ht⟩

theorem Inn.base {B B' : Nat} {w : World} {b : Nat} {ow : Option Nat} {S : Slots} {pv kv : Value} (h : Inn B w b ow S pv kv) (hb : B' ≤ B) : Inn B' w b ow S pv kv := by
  obtain ⟨d, nn, h, h1, h2⟩ := h
  exact ⟨d, nn, h.base hb, h1, h2⟩
theorem Inn.keepTok {base : Nat} {w w' : World} {b : Nat} {ow : Option Nat} {S : Slots} {pv kv : Value} (h : Inn base w b ow S pv kv) {p c k t i : Nat} {out : Int} {q : List Nat} {l : Bool} (hk : Keep [p, c, t] w w') (hP : Pool w p c k out q) (hT : Tok w t p i l) : Inn base w' b ow S pv kv := by
  obtain ⟨d, nn, h, h1, h2⟩ := h
  refine ⟨d, nn, h.keep hk ?_, h1, h2⟩
  intro x hx hm
  obtain ⟨hbp, s, r, hc⟩ := hP
  have hcl : w.heap[x]? = some (.cells #[.chan (some c), .int .i64 k, .int .i64 out] 105 (0, 0)) ∨ w.heap[x]? = some (.chan k (ids q) false s r false) ∨ w.heap[x]? = some (.cells #[at0 p, .int .i64 i, .bool l] 107 (0, 0)) := by
    simp only [List.mem_cons, List.not_mem_nil, or_false] at hm
    rcases hm with rfl | rfl | rfl
    · exact .inl hbp
    · exact .inr (.inl hc)
    · exact .inr (.inr hT)
  simp only [foot, List.mem_cons, List.mem_append, Option.mem_toList] at hx
  have hob : (∃ cs, w.heap[x]? = some (.cells cs 100 (0, 0))) ∨ (∃ cs, w.heap[x]? = some (.cells cs 52 (0, 0))) ∨ ∃ cs, w.heap[x]? = some (.cells cs 29 (0, 0)) := by
    rcases hx with rfl | e | e
    · exact .inl ⟨_, h.blk⟩
    · exact .inr (.inl (own_cells h.prs x e))
    · exact .inr (.inr (own_cells h.kds x e))
  rcases hob with ⟨cs, e⟩ | ⟨cs, e⟩ | ⟨cs, e⟩ <;> rw [e] at hcl <;> rcases hcl with hcl | hcl | hcl <;> cases hcl
theorem Chg.belowAt {own : Bool} {b : Nat} {pv kv : Value} {b1 : Nat} {pv1 kv1 : Value} {w w' : World} {base : Nat} (h : Chg own b pv kv b1 pv1 kv1 w w') (hg : ∀ x ∈ YtchimfgbdfmegaaGreat.foot b pv kv, base ≤ x) (hb : base ≤ w.heap.size) : Below base w w' := by
  refine h.keep.below hb ?_
  split
  · exact hg
  · simp
end Go.Proofs.YtchimfgbdfmegaaGreat
/- Tries: plain mathematics of the pairs that a chunk has. -/
namespace Go.Proofs.YtchimfgbdfmegaaGreat
open Go.RowKit Go.Lib
set_option linter.unusedVariables false
set_option maxRecDepth 100000
set_option linter.unusedSimpArgs false
/-- the chunk of a key at a level -/
def chk (H : ByteArray → Nat) (l : Nat) (k : ByteArray) : Nat := H k / 32 ^ l % 32
theorem chk_lt (H : ByteArray → Nat) (l : Nat) (k : ByteArray) : chk H l k < 32 := Nat.mod_lt _ (by decide)
/-- the pairs of a chunk -/
def sub (H : ByteArray → Nat) (l c : Nat) (ps : List Pr) : List Pr := ps.filter fun p => decide (chk H l p.1 = c)
section
variable {H : ByteArray → Nat} {l c : Nat} {ps : List Pr}
theorem sub_mem {x : Pr} : x ∈ sub H l c ps ↔ x ∈ ps ∧ chk H l x.1 = c := by simp [sub]
theorem sub_rises (h : RisesL ps) : RisesL (sub H l c ps) := List.Pairwise.filter _ h
theorem sub_len : (sub H l c ps).length ≤ ps.length := List.length_filter_le _ _
theorem insK_cons (p q : Pr) (r : List Pr) : insK p (q :: r) = if ltB p.1 q.1 = true then p :: q :: r else q :: insK p r := rfl
theorem insK_low {p : Pr} : ∀ {D : List Pr}, (∀ x ∈ D, ltB p.1 x.1 = true) → insK p D = p :: D
  | [], _ => rfl
  | q :: r, h => by rw [insK_cons, if_pos (h q (by simp))]
/-- keeping some of a rising list, and one more pair, in either order -/
theorem filter_ins {f : Pr → Bool} {p : Pr} (hp : f p = true) : ∀ {D : List Pr}, RisesL D → (insK p D).filter f = insK p (D.filter f)
  | [], _ => by simp [insK, hp]
  | q :: r, h => by
    have hr : RisesL r := (List.pairwise_cons.1 h).2
    have hq := (List.pairwise_cons.1 h).1
    rw [insK_cons]
    by_cases hlt : ltB p.1 q.1 = true
    · rw [if_pos hlt, List.filter_cons, if_pos hp]
      have hall : ∀ x ∈ (q :: r).filter f, ltB p.1 x.1 = true := fun x hx => by
        have hx' := (List.mem_filter.1 hx).1
        rcases List.mem_cons.1 hx' with rfl | hx'
        · exact hlt
        · exact (ltB_iff _ _).2 (((ltB_iff _ _).1 hlt).trans (hq x hx'))
      rw [insK_low hall]
    · rw [if_neg hlt, List.filter_cons]
      by_cases hf : f q = true
      · rw [if_pos hf, List.filter_cons, if_pos hf, filter_ins hp hr]
        rw [insK_cons, if_neg hlt]
      · rw [if_neg hf, List.filter_cons, if_neg hf, filter_ins hp hr]
theorem filter_ins_no {f : Pr → Bool} {p : Pr} (hp : ¬ f p = true) : ∀ {D : List Pr}, (insK p D).filter f = D.filter f
  | [] => by simp [insK, hp]
  | q :: r => by
    rw [insK_cons]
    split
    · rw [List.filter_cons, if_neg hp]
    · rw [List.filter_cons, List.filter_cons, filter_ins_no hp]
theorem filter_drop (f : Pr → Bool) (ps : List Pr) (k : ByteArray) : (dropK ps k).filter f = dropK (ps.filter f) k := by
  unfold dropK
  rw [List.filter_filter, List.filter_filter]
  congr 1; funext x; exact Bool.and_comm _ _
theorem drop_other {k : ByteArray} (h : ∀ x ∈ ps, x.1 ≠ k) : dropK ps k = ps := by
  unfold dropK
  rw [List.filter_eq_self]
  intro x hx
  simp only [Bool.not_eq_true', beq_eq_false_iff_ne, ne_eq]
  exact fun e => h x hx (bytes_ext (by rw [← ByteArray.toList_eq, ← ByteArray.toList_eq]; exact e))
theorem sub_drop (k : ByteArray) : sub H l c (dropK ps k) = dropK (sub H l c ps) k := filter_drop _ _ _
theorem sub_drop_other {k : ByteArray} (h : chk H l k ≠ c) : sub H l c (dropK ps k) = sub H l c ps := by
  rw [sub_drop, drop_other]
  rintro x hx rfl
  exact h (sub_mem.1 hx).2
theorem sub_put {p : Pr} (hr : RisesL ps) (h : chk H l p.1 = c) : sub H l c (putK ps p) = putK (sub H l c ps) p := by
  unfold putK
  rw [← sub_drop]
  exact filter_ins (by simp [h]) (drop_rises _ _ hr)
theorem sub_put_other {p : Pr} (h : chk H l p.1 ≠ c) : sub H l c (putK ps p) = sub H l c ps := by
  unfold putK
  rw [← sub_drop_other (ps := ps) h]
  exact filter_ins_no (by simp [h])
/-- a key's value -/
def getK (ps : List Pr) (k : ByteArray) : Option ByteArray := (ps.find? fun p => decide (p.1 = k)).map (·.2)
theorem getK_sub {k : ByteArray} (h : chk H l k = c) : getK (sub H l c ps) k = getK ps k := by
  unfold getK sub
  rw [List.find?_filter]
  congr 1
  congr 1; funext p
  by_cases e : p.1 = k
  · simp [e, h]
  · simp [e]
theorem getK_mem {k v : ByteArray} (h : getK ps k = some v) : (k, v) ∈ ps := by
  unfold getK at h
  cases hf : ps.find? (fun p => decide (p.1 = k)) with
  | none => rw [hf] at h; simp at h
  | some p =>
    rw [hf] at h
    have h1 := List.mem_of_find?_eq_some hf
    have h2 := List.find?_some hf
    simp at h h2
    rw [← h, ← h2]; exact h1
theorem getK_none {k : ByteArray} : getK ps k = none ↔ ∀ x ∈ ps, x.1 ≠ k := by
  unfold getK
  simp [List.find?_eq_none]
theorem rises_key {x y : Pr} (h : RisesL ps) (hx : x ∈ ps) (hy : y ∈ ps) (e : x.1 = y.1) : x = y := by
  induction ps with
  | nil => simp at hx
  | cons q r ih =>
    have h1 := (List.pairwise_cons.1 h).1
    have h2 := (List.pairwise_cons.1 h).2
    rcases List.mem_cons.1 hx with rfl | hx' <;> rcases List.mem_cons.1 hy with rfl | hy'
    · rfl
    · exact absurd e (h1 y hy').ne
    · exact absurd e.symm (h1 x hx').ne
    · exact ih h2 hx' hy'
theorem getK_of_mem {x : Pr} (h : RisesL ps) (hx : x ∈ ps) : getK ps x.1 = some x.2 := by
  cases hg : getK ps x.1 with
  | none => exact absurd rfl (getK_none.1 hg x hx)
  | some v =>
    have := rises_key h (getK_mem hg) hx rfl
    rw [← this]
theorem put_sets {p x : Pr} : x ∈ putK ps p ↔ x = p ∨ (x ∈ ps ∧ x.1 ≠ p.1) := by
  unfold putK
  rw [ins_mem, drop_mem]
theorem ins_len (p : Pr) : ∀ D : List Pr, (insK p D).length = D.length + 1
  | [] => rfl
  | q :: r => by rw [insK_cons]; split <;> simp [ins_len p r]
theorem put_len (p : Pr) : (putK ps p).length ≤ ps.length + 1 := by
  unfold putK
  rw [ins_len]
  have : (dropK ps p.1).length ≤ ps.length := List.length_filter_le _ _
  omega
/-- a pair that is there is put once more: nothing changes -/
theorem ins_drop {p : Pr} : ∀ {ps : List Pr}, RisesL ps → p ∈ ps → insK p (dropK ps p.1) = ps
  | [], _, h => by simp at h
  | q :: r, hr, h => by
    have h1 := (List.pairwise_cons.1 hr).1
    have h2 := (List.pairwise_cons.1 hr).2
    rcases List.mem_cons.1 h with rfl | h'
    · have e : dropK (p :: r) p.1 = r := by
        have : dropK (p :: r) p.1 = dropK r p.1 := by simp [dropK]
        rw [this, drop_other]
        exact fun x hx e => (h1 x hx).ne e.symm
      rw [e]
      exact insK_low fun x hx => (ltB_iff _ _).2 (h1 x hx)
    · have hne : q.1 ≠ p.1 := (h1 p h').ne
      have e : dropK (q :: r) p.1 = q :: dropK r p.1 := by
        unfold dropK
        rw [List.filter_cons, if_pos]
        simp only [Bool.not_eq_true', beq_eq_false_iff_ne, ne_eq]
        exact fun e => hne (bytes_ext (by rw [← ByteArray.toList_eq, ← ByteArray.toList_eq]; exact e))
      rw [e]
      rw [insK_cons, if_neg, ins_drop h2 h']
      intro hlt
      exact (h1 p h').asymm ((ltB_iff _ _).1 hlt).le
theorem put_same {p : Pr} (hr : RisesL ps) (h : getK ps p.1 = some p.2) : putK ps p = ps := ins_drop hr (getK_mem h)
theorem drop_none {k : ByteArray} (h : getK ps k = none) : dropK ps k = ps := drop_other (getK_none.1 h)
theorem one_of {p : Pr} (h : ps.length = 1) (hm : p ∈ ps) : ps = [p] := by
  match ps, h with
  | [q], _ => simp at hm; rw [hm]
theorem put_one {p q : Pr} (h : q.1 = p.1) : putK [q] p = [p] := by
  have : dropK [q] p.1 = [] := by simp [dropK, h]
  unfold putK; rw [this]; rfl
theorem put_two {p q : Pr} (h : q.1 ≠ p.1) : (putK [q] p).length = 2 := by
  unfold putK
  rw [ins_len, drop_other (by simpa using h)]; rfl
theorem put_len_ge {p : Pr} : ps.length ≤ (putK ps p).length ∨ ∃ x ∈ ps, x.1 = p.1 := by
  by_cases h : ∃ x ∈ ps, x.1 = p.1
  · exact .inr h
  · refine .inl ?_
    unfold putK
    rw [ins_len, drop_other (fun x hx e => h ⟨x, hx, e⟩)]; omega
theorem drop_len_ge {k : ByteArray} (hr : RisesL ps) : ps.length ≤ (dropK ps k).length + 1 := by
  induction ps with
  | nil => simp
  | cons q r ih =>
    have h1 := (List.pairwise_cons.1 hr).1
    have h2 := (List.pairwise_cons.1 hr).2
    by_cases e : q.1 = k
    · have : dropK (q :: r) k = r := by
        have h3 : dropK (q :: r) k = dropK r k := by simp [dropK, e]
        rw [h3, drop_other]
        exact fun x hx e' => (h1 x hx).ne (e.trans e'.symm)
      rw [this]; simp
    · have : dropK (q :: r) k = q :: dropK r k := by
        unfold dropK
        rw [List.filter_cons, if_pos]
        simp only [Bool.not_eq_true', beq_eq_false_iff_ne, ne_eq]
        exact fun e' => e (bytes_ext (by rw [← ByteArray.toList_eq, ← ByteArray.toList_eq]; exact e'))
      rw [this]
      have := ih h2
      simp; omega
theorem put_len_two {p : Pr} (hr : RisesL ps) (h : 2 ≤ ps.length) : 2 ≤ (putK ps p).length := by
  unfold putK
  rw [ins_len]
  have := drop_len_ge (k := p.1) hr
  omega
end
end Go.Proofs.YtchimfgbdfmegaaGreat
/- Tries in memory: what each node has, and who may change it. -/
namespace Go.Proofs.YtchimfgbdfmegaaGreat
open Go.RowKit Go.Lib
set_option linter.unusedVariables false
set_option maxRecDepth 100000
set_option linter.unusedSimpArgs false
/-- blocks that F does not name stay -/
structure KeepF (F : Nat → Prop) (w w' : World) : Prop where
  all : Below 0 w w'
  block : ∀ b, b < w.heap.size → ¬ F b → w'.heap[b]? = w.heap[b]?
section
variable {F G : Nat → Prop} {w w' w1 w2 : World}
theorem KeepF.refl (F : Nat → Prop) (w : World) : KeepF F w w := ⟨Below.refl _ _, fun _ _ _ => rfl⟩
theorem KeepF.size (h : KeepF F w w') : w.heap.size ≤ w'.heap.size := h.all.size
theorem KeepF.trans (h : KeepF F w w1) (k : KeepF F w1 w2) : KeepF F w w2 :=
  ⟨h.all.trans k.all, fun b hb hF => (k.block b (Nat.lt_of_lt_of_le hb h.size) hF).trans (h.block b hb hF)⟩
theorem KeepF.mono (h : KeepF F w w') (hs : ∀ x, F x → G x ∨ w.heap.size ≤ x) : KeepF G w w' :=
  ⟨h.all, fun b hb hG => h.block b hb fun hF => by
    rcases hs b hF with hg | hg
    · exact hG hg
    · omega⟩
theorem KeepF.ofKeep {X : List Nat} (h : Keep X w w') : KeepF (· ∈ X) w w' := ⟨h.all, h.block⟩
theorem KeepF.keep (h : KeepF F w w') : ∃ X : List Nat, Keep X w w' ∧ ∀ x ∈ X, F x := by
  classical
  refine ⟨(List.range w.heap.size).filter fun b => decide (F b), ⟨h.all, fun b hb hx => h.block b hb fun hF => hx ?_⟩, fun x hx => ?_⟩
  · rw [List.mem_filter, List.mem_range]; exact ⟨hb, by simp [hF]⟩
  · simpa using (List.mem_filter.1 hx).2
theorem KeepF.ofBelow (h : Below w.heap.size w w') : KeepF F w w' := ⟨h.mono (Nat.zero_le _), fun b hb _ => h.block b hb⟩
theorem KeepF.below (h : KeepF F w w') (hF : ∀ x, ¬ F x) : Below w.heap.size w w' := by
  obtain ⟨X, hk, hX⟩ := h.keep
  exact hk.below (Nat.le_refl _) (fun x hx => absurd (hX x hx) (hF x))
theorem KeepF.belowAt {base : Nat} (h : KeepF F w w') (hF : ∀ x, F x → base ≤ x) (hb : base ≤ w.heap.size) : Below base w w' := by
  obtain ⟨X, hk, hX⟩ := h.keep
  exact hk.below hb (fun x hx => hF x (hX x hx))
end
/-- a token, or nil, that is none of X -/
structure TVX (X : Nat → Prop) (w : World) (ow : Option Nat) (lo : Bool) : Prop where
  tv : TV w ow lo
  no : ∀ t, ow = some t → ¬ X t
theorem TVX.below {X : Nat → Prop} {w w' : World} {ow : Option Nat} {lo : Bool} (h : TVX X w ow lo) (hb : Below w.heap.size w w') : TV w' ow lo := h.tv.below hb
/-- which blocks of a trie are a token's own -/
structure NodeF (X : Nat → Prop) (own : Bool) (ft : List Nat) (Fs : Nat → Nat → Prop) (F : Nat → Prop) : Prop where
  yes : own = true → (∀ x ∈ ft, X x) ∧ (∀ x, F x ↔ x ∈ ft ∨ ∃ c, c < 32 ∧ Fs c x) ∧ (∀ c x, c < 32 → Fs c x → x ∉ ft) ∧ (∀ c c' x, c < 32 → c' < 32 → Fs c x → Fs c' x → c = c')
  no : own = false → (∀ x ∈ ft, ¬ X x) ∧ (∀ x, ¬ F x) ∧ ∀ c x, c < 32 → ¬ Fs c x
/-- what a chunk has of its pairs -/
def SlotIs (T : Nat → List Pr → (Nat → Prop) → Prop) (s : Sl) (qs : List Pr) (G : Nat → Prop) : Prop :=
  match s with
  | .no => qs = [] ∧ ∀ x, ¬ G x
  | .pr p => qs = [p] ∧ ∀ x, ¬ G x
  | .kd k => 2 ≤ qs.length ∧ T k qs G
/-- the trie of pairs, n levels above the buckets -/
def Trie (H : ByteArray → Nat) (X : Nat → Prop) (tk : Option Nat) (lv : Bool) (base : Nat) (w : World) : Nat → Nat → Nat → List Pr → (Nat → Prop) → Prop
  | 0, l, b, ps, F => ∃ ow pv kv lo, Bck base w b ow ps pv kv ∧ TVX X w ow lo ∧ NodeF X (ownB ow tk lv) (foot b pv kv) (fun _ _ => False) F
  | n + 1, l, b, ps, F => ∃ ow pv kv lo S Fs, Inn base w b ow S pv kv ∧ TVX X w ow lo ∧ NodeF X (ownB ow tk lv) (foot b pv kv) Fs F ∧
      ∀ c, c < 32 → SlotIs (fun k qs G => Trie H X tk lv base w n (l + 1) k qs G) (S c) (sub H l c ps) (Fs c)
section
variable {H : ByteArray → Nat} {X F G : Nat → Prop} {tk : Option Nat} {lv : Bool} {base : Nat} {w w' : World}
theorem NodeF.inX {own : Bool} {ft : List Nat} {Fs : Nat → Nat → Prop} (h : NodeF X own ft Fs F) (hs : ∀ c x, c < 32 → Fs c x → X x) : ∀ x, F x → X x := fun x hx => by
  cases own with
  | false => exact absurd hx ((h.no rfl).2.1 x)
  | true =>
    obtain ⟨h1, h2, -, -⟩ := h.yes rfl
    rcases (h2 x).1 hx with hx | ⟨c, hc, hx⟩
    · exact h1 x hx
    · exact hs c x hc hx
/-- a node's blocks, where G is none of the trie's own -/
theorem NodeF.apart {own : Bool} {ft : List Nat} {Fs : Nat → Nat → Prop} (h : NodeF X own ft Fs F) (h1 : ∀ x, G x → ¬ F x) (h2 : ∀ x, G x → X x) : (∀ x ∈ ft, ¬ G x) ∧ ∀ c x, c < 32 → G x → ¬ Fs c x := by
  cases own with
  | false =>
    obtain ⟨a, -, b⟩ := h.no rfl
    exact ⟨fun x hx hG => a x hx (h2 x hG), fun c x hc _ => b c x hc⟩
  | true =>
    obtain ⟨-, a, -, -⟩ := h.yes rfl
    exact ⟨fun x hx hG => h1 x hG ((a x).2 (.inl hx)), fun c x hc hG hx => h1 x hG ((a x).2 (.inr ⟨c, hc, hx⟩))⟩
theorem Trie.keep (hT : ∀ t l, TV w t l → TV w' t l) : ∀ (n l b : Nat) (ps : List Pr) (F G : Nat → Prop), Trie H X tk lv base w n l b ps F → KeepF G w w' → (∀ x, G x → ¬ F x) → (∀ x, G x → X x) → Trie H X tk lv base w' n l b ps F
  | 0, l, b, ps, F, G, h, hk, h1, h2 => by
    obtain ⟨ow, pv, kv, lo, hB, hv, hN⟩ := h
    obtain ⟨Y, hY, hYF⟩ := hk.keep
    exact ⟨ow, pv, kv, lo, ⟨hB.1.keep hY fun x hx hm => (hN.apart h1 h2).1 x hx (hYF x hm), hB.2⟩, ⟨hT _ _ hv.tv, hv.no⟩, hN⟩
  | n + 1, l, b, ps, F, G, h, hk, h1, h2 => by
    obtain ⟨ow, pv, kv, lo, S, Fs, hI, hv, hN, hS⟩ := h
    obtain ⟨Y, hY, hYF⟩ := hk.keep
    have ha := hN.apart h1 h2
    refine ⟨ow, pv, kv, lo, S, Fs, hI.keep hY fun x hx hm => ha.1 x hx (hYF x hm), ⟨hT _ _ hv.tv, hv.no⟩, hN, fun c hc => ?_⟩
    have := hS c hc
    unfold SlotIs at this ⊢
    cases hs : S c with
    | no => rw [hs] at this; exact this
    | pr p => rw [hs] at this; exact this
    | kd k =>
      rw [hs] at this
      exact ⟨this.1, Trie.keep hT n (l + 1) k _ _ G this.2 hk (fun x hG => ha.2 c x hc hG) h2⟩
theorem Trie.inX : ∀ (n l b : Nat) (ps : List Pr) (F : Nat → Prop), Trie H X tk lv base w n l b ps F → ∀ x, F x → X x
  | 0, l, b, ps, F, h => by
    obtain ⟨ow, pv, kv, lo, hB, hv, hN⟩ := h
    exact hN.inX fun _ _ _ h => h.elim
  | n + 1, l, b, ps, F, h => by
    obtain ⟨ow, pv, kv, lo, S, Fs, hI, hv, hN, hS⟩ := h
    refine hN.inX fun c x hc hx => ?_
    have := hS c hc
    unfold SlotIs at this
    cases hs : S c with
    | no => rw [hs] at this; exact absurd hx (this.2 x)
    | pr p => rw [hs] at this; exact absurd hx (this.2 x)
    | kd k => rw [hs] at this; exact Trie.inX n (l + 1) k _ _ this.2 x hx
/-- of a token's own blocks: none is a token, all are below the heap's end, and from base on -/
theorem Trie.blocks : ∀ (n l b : Nat) (ps : List Pr) (F : Nat → Prop), Trie H X tk lv base w n l b ps F → ∀ x, F x → (∀ cs, ¬ Blk w x 107 cs) ∧ x < w.heap.size ∧ base ≤ x
  | 0, l, b, ps, F, h => by
    obtain ⟨ow, pv, kv, lo, hB, hv, hN⟩ := h
    intro x hx
    cases ho : ownB ow tk lv with
    | false => rw [ho] at hN; exact absurd hx ((hN.no rfl).2.1 x)
    | true =>
      rw [ho] at hN
      rcases ((hN.yes rfl).2.1 x).1 hx with hx | ⟨c, _, hx⟩
      · exact ⟨hB.1.noTok x hx, hB.1.footLt x hx, hB.1.footGe x hx⟩
      · exact hx.elim
  | n + 1, l, b, ps, F, h => by
    obtain ⟨ow, pv, kv, lo, S, Fs, hI, hv, hN, hS⟩ := h
    intro x hx
    cases ho : ownB ow tk lv with
    | false => rw [ho] at hN; exact absurd hx ((hN.no rfl).2.1 x)
    | true =>
      rw [ho] at hN
      rcases ((hN.yes rfl).2.1 x).1 hx with hx | ⟨c, hc, hx⟩
      · exact ⟨hI.noTok x hx, hI.footLt x hx, hI.footGe x hx⟩
      · have := hS c hc
        unfold SlotIs at this
        cases hs : S c with
        | no => rw [hs] at this; exact absurd hx (this.2 x)
        | pr p => rw [hs] at this; exact absurd hx (this.2 x)
        | kd k => rw [hs] at this; exact Trie.blocks n (l + 1) k _ _ this.2 x hx
theorem TV.keepF {t : Option Nat} {l : Bool} (h : TV w t l) (hk : KeepF G w w') (hG : ∀ x, G x → ∀ cs, ¬ Blk w x 107 cs) : TV w' t l := by
  obtain ⟨Y, hY, hYF⟩ := hk.keep
  exact h.keep hY fun x hx => hG x (hYF x hx)
theorem TVX.keepF {t : Option Nat} {l : Bool} (h : TVX X w t l) (hk : KeepF G w w') (hG : ∀ x, G x → ∀ cs, ¬ Blk w x 107 cs) : TV w' t l := h.tv.keepF hk hG
theorem Trie.below {n l b : Nat} {ps : List Pr} (h : Trie H X tk lv base w n l b ps F) (hb : Below w.heap.size w w') : Trie H X tk lv base w' n l b ps F :=
  Trie.keep (fun t l hv => hv.below hb) n l b ps F (fun _ => False) h (KeepF.ofBelow hb) (fun _ h => h.elim) (fun _ h => h.elim)
/-- for whoever has no live token of his own it is a trie, too -/
theorem Trie.forget : ∀ (n l b : Nat) (ps : List Pr) (F : Nat → Prop), Trie H X tk lv base w n l b ps F → ∀ tk', Trie H (fun _ => False) tk' false base w n l b ps (fun _ => False)
  | 0, l, b, ps, F, h, tk' => by
    obtain ⟨ow, pv, kv, lo, hB, hv, hN⟩ := h
    exact ⟨ow, pv, kv, lo, hB, ⟨hv.tv, fun _ _ h => h⟩, fun e => by simp [ownB] at e, fun _ => ⟨fun _ _ h => h, fun _ h => h, fun _ _ _ h => h⟩⟩
  | n + 1, l, b, ps, F, h, tk' => by
    obtain ⟨ow, pv, kv, lo, S, Fs, hI, hv, hN, hS⟩ := h
    refine ⟨ow, pv, kv, lo, S, fun _ _ => False, hI, ⟨hv.tv, fun _ _ h => h⟩, ⟨fun e => by simp [ownB] at e, fun _ => ⟨fun _ _ h => h, fun _ h => h, fun _ _ _ h => h⟩⟩, fun c hc => ?_⟩
    have := hS c hc
    unfold SlotIs at this ⊢
    cases hs : S c with
    | no => rw [hs] at this; exact ⟨this.1, fun _ h => h⟩
    | pr p => rw [hs] at this; exact ⟨this.1, fun _ h => h⟩
    | kd k => rw [hs] at this; exact ⟨this.1, Trie.forget n (l + 1) k _ _ this.2 tk'⟩
end
end Go.Proofs.YtchimfgbdfmegaaGreat
