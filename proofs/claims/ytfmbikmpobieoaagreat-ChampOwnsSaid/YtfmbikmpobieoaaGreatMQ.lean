/- Whether a list rises, as package pair and as the reference tell it. -/
import Derived.Test.YtfmbikmpobieoaaGreatMP
namespace Go.Proofs.YtfmbikmpobieoaaGreat
open Go.RowKit Go.Lib
set_option linter.unusedVariables false
set_option maxRecDepth 100000
set_option linter.unusedSimpArgs false
theorem bytesLess_eq (x y : List UInt8) : Op.bytesLess x y = decide (compareBytes x y < 0) := by
  induction x generalizing y with
  | nil => cases y <;> simp [Op.bytesLess, compareBytes]
  | cons a x ih =>
    cases y with
    | nil => simp [Op.bytesLess, compareBytes]
    | cons b y =>
      simp only [Op.bytesLess, compareBytes, ih]
      by_cases h1 : a < b
      · simp [h1]
      · by_cases h2 : b < a
        · have : ¬ a = b := fun e => UInt8.ne_of_lt h2 e.symm
          simp [h1, h2, this]
        · have : a = b := UInt8.le_antisymm (UInt8.not_lt.1 h2) (UInt8.not_lt.1 h1)
          simp [h1, h2, this]
theorem bytesLess_ltB (a b : ByteArray) : Op.bytesLess a.toList b.toList = ltB a b := by
  rw [bytesLess_eq, ByteArray.toList_eq, ByteArray.toList_eq]; rfl
theorem geqS (a b : ByteArray) (w : World) : (binOp .geq 9 (.string a) (.string b)).run Tryz.prog w = .ok (.bool (!ltB a b)) w := by
  have h : binOp .geq 9 (.string a) (.string b) = pure (.bool (!Op.bytesLess a.toList b.toList)) := by simp [binOp, Op.stringOp]
  rw [h, bytesLess_ltB]; rfl
/-- whether each key is less than the next one -/
def risesB : List Pr → Bool
  | x :: y :: r => ltB x.1 y.1 && risesB (y :: r)
  | _ => true
theorem rises_drop (xs : List Pr) (j : Nat) (h : j + 1 < xs.length) : risesB (xs.drop j) = (ltB (pat xs j).1 (pat xs (j + 1)).1 && risesB (xs.drop (j + 1))) := by
  have e : xs.drop j = pat xs j :: pat xs (j + 1) :: xs.drop (j + 2) := by
    rw [List.drop_eq_getElem_cons (by omega), List.drop_eq_getElem_cons h]
    simp [pat, h, (by omega : j < xs.length)]
  have e2 : xs.drop (j + 1) = pat xs (j + 1) :: xs.drop (j + 2) := by
    rw [List.drop_eq_getElem_cons h]
    simp [pat, h]
  rw [e, e2]
  rfl
theorem rises_end (xs : List Pr) (j : Nat) (h : xs.length ≤ j + 1) : risesB (xs.drop j) = true := by
  have hl : (xs.drop j).length ≤ 1 := by rw [List.length_drop]; omega
  match hd : xs.drop j, hl with
  | [], _ => rfl
  | [x], _ => rfl
theorem risesB_iff (xs : List Pr) : risesB xs = true ↔ RisesL xs := by
  induction xs with
  | nil => simp [risesB, RisesL]
  | cons x r ih =>
    cases r with
    | nil => simp [risesB, RisesL]
    | cons y r =>
      have hlt : ltB x.1 y.1 = true ↔ Lt x.1 y.1 := by unfold ltB Lt; simp
      simp only [risesB, Bool.and_eq_true, hlt, ih]
      unfold RisesL
      constructor
      · rintro ⟨h1, h2⟩
        rw [List.pairwise_cons]
        refine ⟨fun q hq => ?_, h2⟩
        rcases List.mem_cons.1 hq with rfl | hq
        · exact h1
        · exact h1.trans ((List.pairwise_cons.1 h2).1 q hq)
      · intro h
        rw [List.pairwise_cons] at h
        exact ⟨h.1 y (by simp), h.2⟩

end Go.Proofs.YtfmbikmpobieoaaGreat
/- The reference's Rises and Drop. -/
namespace Go.Proofs.YtfmbikmpobieoaaGreat
open Go.RowKit Go.Lib
set_option linter.unusedVariables false
set_option maxRecDepth 100000
set_option linter.unusedSimpArgs false
/-- no key is longer than a string can be -/
def Sized (xs : List Pr) : Prop := ∀ j, (pat xs j).1.size ≤ maxLen
/-- those with another key -/
def dropK (xs : List Pr) (k : ByteArray) : List Pr := xs.filter fun p => !(p.1.toList == k.toList)
theorem drop_take (xs : List Pr) (k : ByteArray) (j : Nat) (h : j < xs.length) : dropK (xs.take (j + 1)) k = dropK (xs.take j) k ++ (if ((pat xs j).1.toList == k.toList) = true then [] else [pat xs j]) := by
  have et : xs.take (j + 1) = xs.take j ++ [pat xs j] := by
    rw [List.take_succ_eq_append_getElem h]
    simp [pat, h]
  unfold dropK
  rw [et, List.filter_append]
  congr 1
  by_cases hk : ((pat xs j).1.toList == k.toList) = true
  · rw [if_pos hk]; simp [hk]
  · rw [if_neg hk]; simp at hk; simp [hk]
theorem drop_le (xs : List Pr) (k : ByteArray) (j : Nat) : (dropK (xs.take j) k).length ≤ j := Nat.le_trans (List.length_filter_le _ _) (by rw [List.length_take]; omega)
set_option maxRecDepth 100000 in
set_option maxHeartbeats 4000000 in
theorem refDrop_any (A : Option Addr) (c : Nat) (xs : List Pr) (k : ByteArray) (w : World) (hR : Rd w A xs) (hn : xs.length ≤ 1000) :
    Calls Tryz.prog 14 #[.slice A xs.length c, .string k] w fun e w' => ∃ v, e = .returned v ∧ OwnR w.heap.size w' v (dropK xs k) ∧ Below w.heap.size w w' := by
  obtain ⟨i0, hi, hz0, hz1, hz2⟩ := info_parts info40
  obtain ⟨n, hxs⟩ : ∃ n, n = xs.length := ⟨_, rfl⟩
  rw [← hxs] at hn ⊢
  have HX := Lib.hid hxs
  have HR := Lib.hid hR
  clear hxs hR
  go_enter Tryz.func14, Tryz.ntmps14
  go_wp2_with fail
  go_loopw [5, 10] (fun v i wr => ∃ j : Nat, j ≤ n ∧ i = .int .i64 j ∧ OwnR w.heap.size wr v (dropK (xs.take j) k) ∧ Below w.heap.size w wr) (fun v i wr => n - (intOf i).toNat)
  case atStart => exact ⟨0, by omega, rfl, World.ownsRow_nil _ _ _ _, Below.refl _ _⟩
  case round =>
    obtain ⟨j, hj, rfl, hO, hB⟩ := hrel
    by_cases hlt : j < n
    · obtain ⟨g, off, rfl, c0, c1⟩ := (HR.out.below hB).at j (by rw [← HX.out]; exact hlt)
      have hrow : wr.ownsRow w.heap.size 45 2 u5 (dropK (xs.take j) k).length (flat (dropK (xs.take j) k)) := hO
      have hdl := drop_le xs k j
      have hdt := Lib.hid (drop_take xs k j (by rw [← HX.out]; exact hlt))
      have hb2 : Below w.heap.size w (wr.alloc (.cells #[.string (pat xs j).1, .string (pat xs j).2] 45)) := hB.alloc hB.size _
      have hrow2 := hrow.alloc (.cells #[.string (pat xs j).1, .string (pat xs j).2] 45)
      have hbx := Blk.new wr 45 #[.string (pat xs j).1, .string (pat xs j).2]
      clear hO hB
      go_upto_region 5 with (fail)
      generalize wr.alloc (.cells #[.string (pat xs j).1, .string (pat xs j).2] 45) = W at *
      generalize wr.heap.size = Bx at *
      have b0 : W.cell? ⟨Bx, 0, none⟩ = some (.string (pat xs j).1) := hbx.cell 0
      have b1 : W.cell? ⟨Bx, 1, none⟩ = some (.string (pat xs j).2) := hbx.cell 1
      clear hbx c0 c1 hrow
      generalize dropK (xs.take j) k = R at *
      cases hq : ((pat xs j).1.toList == k.toList) with
      | true =>
        go_wp2_with fail
        refine ⟨⟨j + 1, by omega, by go_num, ?_, hb2⟩, by simp [intOf]; omega⟩
        rw [hdt.out, if_pos hq, List.append_nil]
        exact hrow2
      | false =>
        go_wp2_with (at_builtin; refine wpList_append_own _ rfl _ _ 32 rfl w.heap.size 45 i0 _ 2 32 Tryz.underlying32 hi hz0 hz1 hz2 rfl (by decide) _ _ _ rfl (hrow2.alloc _) ⟨W.heap.size, 0, none⟩ 1 1 [.string (pat xs j).1, .string (pat xs j).2] rfl rfl (cell_two_new _ _ _ _) (flat_cell (pat xs j)) (by unfold maxLen; omega) (by omega) (by have := hb2.size; simp; omega) ?_; intro v' wa hown' hgrow hnil)
        have hB5 : Below w.heap.size w wa := (hb2.alloc hb2.size _).grown hgrow (by have := hb2.size; simp; omega) (own_ge hrow2)
        refine ⟨⟨j + 1, by omega, by go_num, ?_, hB5⟩, by simp [intOf]; omega⟩
        rw [hdt.out, if_neg (by rw [hq]; simp)]
        unfold OwnR
        rw [flat_snoc, List.length_append]
        exact hown'
    · go_wp2_with fail
      go_ret
      rw [List.take_of_length_le (by rw [← HX.out]; omega)] at hO
      exact ⟨_, rfl, hO, hB⟩
end Go.Proofs.YtfmbikmpobieoaaGreat
/- One pair put into the sorted list of a list: it is the sorted list of the list with that pair behind it. -/
namespace Go.Proofs.YtfmbikmpobieoaaGreat
open Go.RowKit Go.Lib
set_option linter.unusedVariables false
set_option maxRecDepth 100000
set_option linter.unusedSimpArgs false
/-- a pair, ahead of the first greater key -/
def insK (p : Pr) : List Pr → List Pr
  | [] => [p]
  | q :: r => if ltB p.1 q.1 = true then p :: q :: r else q :: insK p r
/-- with a pair -/
def putK (xs : List Pr) (p : Pr) : List Pr := insK p (dropK xs p.1)
theorem ins_mem (p x : Pr) (D : List Pr) : x ∈ insK p D ↔ x = p ∨ x ∈ D := by
  induction D with
  | nil => simp [insK]
  | cons q r ih =>
    unfold insK
    split
    · simp
    · simp only [List.mem_cons, ih]
      constructor
      · rintro (h | h | h)
        · exact .inr (.inl h)
        · exact .inl h
        · exact .inr (.inr h)
      · rintro (h | h | h)
        · exact .inr (.inl h)
        · exact .inl h
        · exact .inr (.inr h)
theorem ltB_iff (a b : ByteArray) : ltB a b = true ↔ Lt a b := by unfold ltB Lt; simp
theorem ins_rises (p : Pr) (D : List Pr) (h : RisesL D) (hk : ∀ x ∈ D, x.1 ≠ p.1) : RisesL (insK p D) := by
  induction D with
  | nil => simp [insK, RisesL]
  | cons q r ih =>
    have h' := List.pairwise_cons.1 h
    unfold insK
    split
    · rename_i hl
      have hpq := (ltB_iff _ _).1 hl
      unfold RisesL
      rw [List.pairwise_cons]
      refine ⟨fun x hx => ?_, h⟩
      rcases List.mem_cons.1 hx with rfl | hx
      · exact hpq
      · exact hpq.trans (h'.1 x hx)
    · rename_i hl
      have hqp : Lt q.1 p.1 := by
        have h1 : Le q.1 p.1 := not_lt_le (fun hc => hl ((ltB_iff _ _).2 hc))
        rcases h1.lt_or_eq with h1 | h1
        · exact h1
        · exact absurd h1 (hk q (by simp))
      unfold RisesL
      rw [List.pairwise_cons]
      refine ⟨fun x hx => ?_, ih h'.2 (fun x hx => hk x (List.mem_cons_of_mem _ hx))⟩
      rcases (ins_mem p x r).1 hx with rfl | hx
      · exact hqp
      · exact h'.1 x hx
theorem drop_mem (xs : List Pr) (k : ByteArray) (x : Pr) : x ∈ dropK xs k ↔ x ∈ xs ∧ x.1 ≠ k := by
  unfold dropK
  rw [List.mem_filter]
  simp only [Bool.not_eq_true', beq_eq_false_iff_ne, ne_eq]
  constructor
  · rintro ⟨h1, h2⟩; exact ⟨h1, fun e => h2 (by rw [e])⟩
  · rintro ⟨h1, h2⟩; exact ⟨h1, fun e => h2 (bytes_ext (by rw [ByteArray.toList_eq, ByteArray.toList_eq] at e; exact e))⟩
theorem drop_rises (xs : List Pr) (k : ByteArray) (h : RisesL xs) : RisesL (dropK xs k) := List.Pairwise.filter _ h
theorem norm_put {ys R : List Pr} (p : Pr) (h : IsNorm ys R) : IsNorm (ys ++ [p]) (putK R p) := by
  constructor
  · exact ins_rises p _ (drop_rises R p.1 h.rises) (fun x hx => ((drop_mem R p.1 x).1 hx).2)
  · intro x
    unfold putK
    rw [ins_mem, drop_mem, h.mem x]
    have e : withKey (ys ++ [p]) x.1 = withKey ys x.1 ++ (if p.1 = x.1 then [p] else []) := by
      unfold withKey
      rw [List.filter_append]
      by_cases hp : p.1 = x.1 <;> simp [hp]
    rw [e]
    by_cases hp : p.1 = x.1
    · rw [if_pos hp, List.getLast?_append]
      simp only [List.getLast?_singleton, Option.some_or, Option.some.injEq]
      constructor
      · rintro (h1 | ⟨_, h2⟩)
        · exact h1.symm
        · exact absurd hp.symm h2
      · intro h1; exact .inl h1.symm
    · rw [if_neg hp, List.append_nil]
      constructor
      · rintro (h1 | ⟨h1, _⟩)
        · subst h1; exact absurd rfl hp
        · exact h1
      · intro h1; exact .inr ⟨h1, fun e => hp e.symm⟩
theorem norm_nil : IsNorm [] [] := ⟨List.Pairwise.nil, fun p => by simp [withKey]⟩
end Go.Proofs.YtfmbikmpobieoaaGreat
/- The reference's Put. -/
namespace Go.Proofs.YtfmbikmpobieoaaGreat
open Go.RowKit Go.Lib
set_option linter.unusedVariables false
set_option maxRecDepth 100000
set_option linter.unusedSimpArgs false
theorem insK_at (p : Pr) (D : List Pr) (j : Nat) (h : j < D.length) : insK p (D.drop j) = if ltB p.1 (pat D j).1 = true then p :: pat D j :: D.drop (j + 1) else pat D j :: insK p (D.drop (j + 1)) := by
  have e : D.drop j = pat D j :: D.drop (j + 1) := by
    rw [List.drop_eq_getElem_cons h]; simp [pat, h]
  rw [e]; rfl
theorem insK_end (p : Pr) (D : List Pr) (j : Nat) (h : D.length ≤ j) : insK p (D.drop j) = [p] := by
  rw [List.drop_of_length_le h]; rfl
theorem drop_at (D : List Pr) (j : Nat) (h : j < D.length) : D.drop j = pat D j :: D.drop (j + 1) := by
  rw [List.drop_eq_getElem_cons h]; simp [pat, h]
/-- what is in out when j of D have come by -/
def OutP (p : Pr) (D : List Pr) (j : Nat) (b : Bool) (X : List Pr) : Prop :=
  X ++ (if b = true then D.drop j else insK p (D.drop j)) = insK p D ∧ X.length ≤ j + b.toNat
theorem OutP.start (p : Pr) (D : List Pr) : OutP p D 0 false [] := ⟨by simp, by simp⟩
theorem OutP.in {p : Pr} {D : List Pr} {j : Nat} {X : List Pr} (h : OutP p D j false X) (hj : j < D.length) (hl : ltB p.1 (pat D j).1 = true) : OutP p D (j + 1) true (X ++ [p] ++ [pat D j]) := by
  obtain ⟨h, hX⟩ := h
  simp at hX
  rw [if_neg (by simp), insK_at p D j hj, if_pos hl] at h
  exact ⟨by rw [← h]; simp, by simp; omega⟩
theorem OutP.on {p : Pr} {D : List Pr} {j : Nat} {X : List Pr} (h : OutP p D j false X) (hj : j < D.length) (hl : ltB p.1 (pat D j).1 = false) : OutP p D (j + 1) false (X ++ [pat D j]) := by
  obtain ⟨h, hX⟩ := h
  simp at hX
  rw [if_neg (by simp), insK_at p D j hj, if_neg (by rw [hl]; simp)] at h
  exact ⟨by rw [← h]; simp, by simp; omega⟩
theorem OutP.next {p : Pr} {D : List Pr} {j : Nat} {X : List Pr} (h : OutP p D j true X) (hj : j < D.length) : OutP p D (j + 1) true (X ++ [pat D j]) := by
  obtain ⟨h, hX⟩ := h
  simp at hX
  rw [if_pos rfl, drop_at D j hj] at h
  exact ⟨by rw [← h]; simp, by simp; omega⟩
theorem OutP.done {p : Pr} {D : List Pr} {j : Nat} {X : List Pr} (h : OutP p D j true X) (hj : D.length ≤ j) : X = insK p D := by
  rw [← h.1, if_pos rfl, List.drop_of_length_le hj]; simp
theorem OutP.last {p : Pr} {D : List Pr} {j : Nat} {X : List Pr} (h : OutP p D j false X) (hj : D.length ≤ j) : X ++ [p] = insK p D := by
  rw [← h.1, if_neg (by simp), insK_end p D j hj]
theorem sized_drop {xs : List Pr} (h : Sized xs) (k : ByteArray) : Sized (dropK xs k) := by
  intro j
  by_cases hj : j < (dropK xs k).length
  · have hm : (pat (dropK xs k) j) ∈ dropK xs k := by unfold pat; rw [List.getElem?_eq_getElem hj]; exact List.getElem_mem _
    have := (List.mem_filter.1 hm).1
    obtain ⟨i, hi, e⟩ := List.getElem_of_mem this
    have := h i
    unfold pat at this
    rw [List.getElem?_eq_getElem hi] at this
    simpa [e] using this
  · unfold pat
    rw [List.getElem?_eq_none (by omega)]
    simp [maxLen]
theorem OwnR.base {b b' : Nat} {w : World} {v : Value} {xs : List Pr} (h : OwnR b w v xs) (hb : b' ≤ b) : OwnR b' w v xs := by
  refine ⟨h.1, ?_⟩
  rcases h.2 with h1 | ⟨g, cap, cur, h1, h2, h3⟩
  · exact .inl h1
  · exact .inr ⟨g, cap, cur, h1, Nat.le_trans hb h2, h3⟩
theorem OwnR.snoc {base : Nat} {w : World} {v : Value} {R : List Pr} {p : Pr} (h : w.ownsRow base 45 2 v (R.length + 1) (flat R ++ [.string p.1, .string p.2])) : OwnR base w v (R ++ [p]) := by
  unfold OwnR
  rw [flat_snoc, List.length_append]
  exact h
set_option maxRecDepth 100000 in
set_option maxHeartbeats 4000000 in
theorem refPut_any (A : Option Addr) (c : Nat) (xs : List Pr) (p : Pr) (w : World) (hR : Rd w A xs) (hn : xs.length ≤ 900) (hz : Sized xs) (hp : p.1.size ≤ maxLen) :
    Calls Tryz.prog 16 #[.slice A xs.length c, p.v] w fun e w' => ∃ v, e = .returned v ∧ OwnR w.heap.size w' v (putK xs p) ∧ Below w.heap.size w w' := by
  obtain ⟨i0, hi, hz0, hz1, hz2⟩ := info_parts info40
  have hB0 : Below w.heap.size w (w.alloc (.cells #[.string p.1, .string p.2] 45)) := (Below.refl _ w).alloc (Nat.le_refl _) _
  have hR0 := hR.below hB0
  have hbx := Blk.new w 45 #[.string p.1, .string p.2]
  have hlt0 : w.heap.size < (w.alloc (.cells #[.string p.1, .string p.2] 45)).heap.size := by simp
  have hzD := sized_drop hz p.1
  have hDl : (dropK xs p.1).length ≤ 900 := Nat.le_trans (List.length_filter_le _ _) hn
  have hgoal : putK xs p = insK p (dropK xs p.1) := rfl
  rw [hgoal]
  obtain ⟨D, hD⟩ : ∃ D, D = dropK xs p.1 := ⟨_, rfl⟩
  rw [← hD] at hzD hDl ⊢
  have HDK := Lib.hid hD
  clear hgoal hD
  unfold Pr.v
  go_enter Tryz.func16, Tryz.ntmps16
  go_upto_region 3 with (fail)
  generalize w.alloc (.cells #[.string p.1, .string p.2] 45) = W0 at *
  have b0 : W0.cell? ⟨w.heap.size, 0, none⟩ = some (.string p.1) := hbx.cell 0
  have b1 : W0.cell? ⟨w.heap.size, 1, none⟩ = some (.string p.2) := hbx.cell 1
  go_wp2_with fail
  refine (refDrop_any A c xs p.1 W0 hR0 (by omega)).mono ?_
  rintro e w1 ⟨v1, rfl, hO1, hB1⟩
  rw [← HDK.out] at hO1
  obtain ⟨A1, c1, rfl, hR1⟩ := hO1.rd
  have hW1 := hB0.trans (hB1.mono hB0.size)
  have b0' : w1.cell? ⟨w.heap.size, 0, none⟩ = some (.string p.1) := (hB1.cell hlt0).trans b0
  have b1' : w1.cell? ⟨w.heap.size, 1, none⟩ = some (.string p.2) := (hB1.cell hlt0).trans b1
  have hlt1 : w.heap.size < w1.heap.size := Nat.lt_of_lt_of_le hlt0 hB1.size
  clear hO1 hbx hB0 hB1 b0 b1 hR0 hR hn hz
  obtain ⟨m, hm⟩ : ∃ m, m = D.length := ⟨_, rfl⟩
  rw [← hm] at hDl ⊢
  have HD := Lib.hid hm
  have HR := Lib.hid hR1
  have HZ := Lib.hid hzD
  have HW1 := Lib.hid hW1
  clear hm hR1 hzD hW1
  go_wp2_with fail
  go_loopw [5, 6, 14] (fun v pl i wr => ∃ (j : Nat) (b : Bool) (X : List Pr), j ≤ m ∧ i = .int .i64 j ∧ pl = .bool b ∧ OutP p D j b X ∧ OwnR w1.heap.size wr v X ∧ Below w1.heap.size w1 wr) (fun v pl i wr => m - (intOf i).toNat)
  case atStart => exact ⟨0, false, [], by omega, rfl, rfl, OutP.start p D, World.ownsRow_nil _ _ _ _, Below.refl _ _⟩
  case round =>
    obtain ⟨j, b, X, hj, rfl, rfl, hX, hO, hB⟩ := hrel
    have p0 : wr.cell? ⟨w.heap.size, 0, none⟩ = some (.string p.1) := (hB.cell hlt1).trans b0'
    have p1 : wr.cell? ⟨w.heap.size, 1, none⟩ = some (.string p.2) := (hB.cell hlt1).trans b1'
    have hXl := hX.2
    have hXl2 : X.length ≤ 1000 := by have := Bool.toNat_le b; omega
    have HX := Lib.hid hX
    clear hX hXl
    by_cases hlt : j < m
    · obtain ⟨g, off, rfl, c0, c1'⟩ := (HR.out.below hB).at j (by rw [← HD.out]; exact hlt)
      have hrow : wr.ownsRow w1.heap.size 45 2 u5 X.length (flat X) := hO
      have hb2 : Below w1.heap.size w1 (wr.alloc (.cells #[.string (pat D j).1, .string (pat D j).2] 45)) := hB.alloc hB.size _
      have hrow2 := hrow.alloc (.cells #[.string (pat D j).1, .string (pat D j).2] 45)
      have hbx := Blk.new wr 45 #[.string (pat D j).1, .string (pat D j).2]
      have hlB : wr.heap.size < (wr.alloc (.cells #[.string (pat D j).1, .string (pat D j).2] 45)).heap.size := by simp
      have p0' : (wr.alloc (.cells #[.string (pat D j).1, .string (pat D j).2] 45)).cell? ⟨w.heap.size, 0, none⟩ = some (.string p.1) := (hb2.cell hlt1).trans b0'
      have p1' : (wr.alloc (.cells #[.string (pat D j).1, .string (pat D j).2] 45)).cell? ⟨w.heap.size, 1, none⟩ = some (.string p.2) := (hb2.cell hlt1).trans b1'
      have hne : some wr.heap.size ≠ u5.ownBlock := fun e => by have := (World.ownsRow.lt hrow _ e.symm).2; omega
      clear hO hB p0 p1 b0' b1'
      go_upto_region 6 with (fail)
      generalize wr.alloc (.cells #[.string (pat D j).1, .string (pat D j).2] 45) = W at *
      generalize wr.heap.size = Bx at *
      have q0 : W.cell? ⟨Bx, 0, none⟩ = some (.string (pat D j).1) := hbx.cell 0
      have q1 : W.cell? ⟨Bx, 1, none⟩ = some (.string (pat D j).2) := hbx.cell 1
      clear hbx c0 c1' hrow
      have hjD : j < D.length := by rw [← HD.out]; exact hlt
      cases b with
      | true =>
        have HN := Lib.hid (HX.out.next hjD)
        go_wp2_with (at_builtin; refine wpList_append_own _ rfl _ _ 32 rfl w1.heap.size 45 i0 _ 2 32 Tryz.underlying32 hi hz0 hz1 hz2 rfl (by decide) _ _ _ rfl (hrow2.alloc _) ⟨W.heap.size, 0, none⟩ 1 1 [.string (pat D j).1, .string (pat D j).2] rfl rfl (cell_two_new _ _ _ _) (flat_cell (pat D j)) (by unfold maxLen; omega) (by omega) (by have := hb2.size; simp; omega) ?_; intro v' wa hown' hgrow hnil)
        have hB5 : Below w1.heap.size w1 wa := (hb2.alloc hb2.size _).grown hgrow (by have := hb2.size; simp; omega) (own_ge hrow2)
        exact ⟨⟨j + 1, true, X ++ [pat D j], by omega, by go_num, rfl, HN.out, OwnR.snoc hown', hB5⟩, by simp [intOf]; omega⟩
      | false =>
        go_wp2_with fail
        refine (less_any p.1 (pat D j).1 W hp (HZ.out j)).mono ?_
        rintro e w' ⟨rfl, nq, rfl⟩
        have hrow3 : (W.drewN nq).ownsRow w1.heap.size 45 2 u5 X.length (flat X) := hrow2
        have hb3 : Below w1.heap.size w1 (W.drewN nq) := ⟨hb2.os, hb2.tape, hb2.output, hb2.size, hb2.block⟩
        have p03 : (W.drewN nq).cell? ⟨w.heap.size, 0, none⟩ = some (.string p.1) := p0'
        have p13 : (W.drewN nq).cell? ⟨w.heap.size, 1, none⟩ = some (.string p.2) := p1'
        have q03 : (W.drewN nq).cell? ⟨Bx, 0, none⟩ = some (.string (pat D j).1) := q0
        have q13 : (W.drewN nq).cell? ⟨Bx, 1, none⟩ = some (.string (pat D j).2) := q1
        have hlB3 : Bx < (W.drewN nq).heap.size := hlB
        clear hrow2 hb2 p0' p1' q0 q1 hlB
        generalize W.drewN nq = W2 at *
        cases hv : ltB p.1 (pat D j).1 with
        | true =>
          have HN := Lib.hid (HX.out.in hjD hv)
          have hA2 : Below W2.heap.size W2 (W2.alloc (.cells #[.string p.1, .string p.2] 45)) := (Below.refl _ W2).alloc (Nat.le_refl _) _
          clear hv
          go_upto_region 8 with (at_builtin; refine wpList_append_own _ rfl _ _ 32 rfl w1.heap.size 45 i0 _ 2 32 Tryz.underlying32 hi hz0 hz1 hz2 rfl (by decide) _ _ _ rfl (hrow3.alloc _) ⟨W2.heap.size, 0, none⟩ 1 1 [.string p.1, .string p.2] rfl rfl (cell_two_new _ _ _ _) (flat_cell p) (by unfold maxLen; omega) (by omega) (by have := hb3.size; simp; omega) ?_; intro v' wa hown' hgrow hnil; have q04 := hgrow.cell ((hA2.cell hlB3).trans q03) hne; have q14 := hgrow.cell ((hA2.cell hlB3).trans q13) hne)
          have hB5 : Below w1.heap.size w1 wa := (hb3.alloc hb3.size _).grown hgrow (by have := hb3.size; simp; omega) (own_ge hrow3)
          have hrow4 : wa.ownsRow w1.heap.size 45 2 v' (X.length + 1) (flat X ++ [.string p.1, .string p.2]) := hown'
          clear hgrow hnil hown' hrow3 hb3 p03 p13 q03 q13
          go_wp2_with (at_builtin; refine wpList_append_own _ rfl _ _ 32 rfl w1.heap.size 45 i0 _ 2 32 Tryz.underlying32 hi hz0 hz1 hz2 rfl (by decide) _ _ _ rfl (hrow4.alloc _) ⟨wa.heap.size, 0, none⟩ 1 1 [.string (pat D j).1, .string (pat D j).2] rfl rfl (cell_two_new _ _ _ _) (flat_cell (pat D j)) (by unfold maxLen; omega) (by omega) (by have := hB5.size; simp; omega) ?_; intro v2 wb hown2 hgrow2 hnil2)
          have hB6 : Below w1.heap.size w1 wb := (hB5.alloc hB5.size _).grown hgrow2 (by have := hB5.size; simp; omega) (own_ge hrow4)
          refine ⟨⟨j + 1, true, X ++ [p] ++ [pat D j], by omega, by go_num, rfl, HN.out, ?_, hB6⟩, by simp [intOf]; omega⟩
          refine OwnR.snoc ?_
          rw [flat_snoc, List.length_append]
          exact hown2
        | false =>
          have HN := Lib.hid (HX.out.on hjD hv)
          clear hv
          go_wp2_with (at_builtin; refine wpList_append_own _ rfl _ _ 32 rfl w1.heap.size 45 i0 _ 2 32 Tryz.underlying32 hi hz0 hz1 hz2 rfl (by decide) _ _ _ rfl (hrow3.alloc _) ⟨W2.heap.size, 0, none⟩ 1 1 [.string (pat D j).1, .string (pat D j).2] rfl rfl (cell_two_new _ _ _ _) (flat_cell (pat D j)) (by unfold maxLen; omega) (by omega) (by have := hb3.size; simp; omega) ?_; intro v' wa hown' hgrow hnil)
          have hB5 : Below w1.heap.size w1 wa := (hb3.alloc hb3.size _).grown hgrow (by have := hb3.size; simp; omega) (own_ge hrow3)
          exact ⟨⟨j + 1, false, X ++ [pat D j], by omega, by go_num, rfl, HN.out, OwnR.snoc hown', hB5⟩, by simp [intOf]; omega⟩
    · have hjD : D.length ≤ j := by rw [← HD.out]; omega
      have hrow : wr.ownsRow w1.heap.size 45 2 u5 X.length (flat X) := hO
      have hfin : ∀ (v : Value) (wa : World), OwnR w1.heap.size wa v (insK p D) → Below w1.heap.size w1 wa → OwnR w.heap.size wa v (insK p D) ∧ Below w.heap.size w wa := fun v wa h1 h2 => ⟨h1.base HW1.out.size, HW1.out.trans (h2.mono HW1.out.size)⟩
      have HF := Lib.hid hfin
      clear hO hfin
      cases b with
      | true =>
        have HN := Lib.hid (HX.out.done hjD)
        go_wp2_with fail
        go_ret
        have e1 := HN.out
        subst e1
        obtain ⟨h1, h2⟩ := HF.out _ _ hrow hB
        exact ⟨_, rfl, h1, h2⟩
      | false =>
        have HN := Lib.hid (HX.out.last hjD)
        go_wp2_with (at_builtin; refine wpList_append_own _ rfl _ _ 32 rfl w1.heap.size 45 i0 _ 2 32 Tryz.underlying32 hi hz0 hz1 hz2 rfl (by decide) _ _ _ rfl (hrow.alloc _) ⟨wr.heap.size, 0, none⟩ 1 1 [.string p.1, .string p.2] rfl rfl (cell_two_new _ _ _ _) (flat_cell p) (by unfold maxLen; omega) (by omega) (by have := hB.size; simp; omega) ?_; intro v' wa hown' hgrow hnil)
        have hB5 : Below w1.heap.size w1 wa := (hB.alloc hB.size _).grown hgrow (by have := hB.size; simp; omega) (own_ge hrow)
        go_ret
        have hX' := OwnR.snoc hown'
        rw [HN.out] at hX'
        obtain ⟨h1, h2⟩ := HF.out _ _ hX' hB5
        exact ⟨_, rfl, h1, h2⟩
end Go.Proofs.YtfmbikmpobieoaaGreat
/- Where a key stands in a rising list: the binary search of package slices, Find of package pair, Find of the reference. -/
namespace Go.Proofs.YtfmbikmpobieoaaGreat
open Go.RowKit Go.Lib
set_option linter.unusedVariables false
set_option maxRecDepth 100000
set_option linter.unusedSimpArgs false
/-- how many keys stand ahead of a key -/
def posK : List Pr → ByteArray → Nat
  | [], _ => 0
  | q :: r, k => if ltB q.1 k = true then posK r k + 1 else 0
/-- whether it is there -/
def isK (xs : List Pr) (k : ByteArray) : Bool := decide (posK xs k < xs.length ∧ (pat xs (posK xs k)).1 = k)
theorem posK_le (xs : List Pr) (k : ByteArray) : posK xs k ≤ xs.length := by
  induction xs with
  | nil => simp [posK]
  | cons q r ih => unfold posK; split <;> simp; exact ih
theorem pat_succ (q : Pr) (r : List Pr) (j : Nat) : pat (q :: r) (j + 1) = pat r j := by simp [pat]
theorem pat_zero (q : Pr) (r : List Pr) : pat (q :: r) 0 = q := by simp [pat]
theorem posK_lt (xs : List Pr) (k : ByteArray) (j : Nat) (h : j < posK xs k) : Lt (pat xs j).1 k := by
  induction xs generalizing j with
  | nil => simp [posK] at h
  | cons q r ih =>
    unfold posK at h
    split at h
    · rename_i hq
      cases j with
      | zero => rw [pat_zero]; exact (ltB_iff _ _).1 hq
      | succ j => rw [pat_succ]; exact ih j (by omega)
    · omega
theorem posK_not (xs : List Pr) (k : ByteArray) (h : posK xs k < xs.length) : ¬ Lt (pat xs (posK xs k)).1 k := by
  induction xs with
  | nil => simp at h
  | cons q r ih =>
    unfold posK at h ⊢
    split at h
    · rename_i hq
      rw [if_pos hq, pat_succ]
      exact ih (by simpa using h)
    · rename_i hq
      rw [if_neg hq, pat_zero]
      exact fun hl => hq ((ltB_iff _ _).2 hl)
theorem rises_at {xs : List Pr} (h : RisesL xs) {i j : Nat} (hij : i < j) (hj : j < xs.length) : Lt (pat xs i).1 (pat xs j).1 := by
  have := (List.pairwise_iff_getElem.1 h) i j (by omega) hj hij
  simpa [pat, hj, (by omega : i < xs.length)] using this
theorem posK_ge {xs : List Pr} (hr : RisesL xs) (k : ByteArray) (j : Nat) (h : posK xs k ≤ j) (hj : j < xs.length) : ¬ Lt (pat xs j).1 k := by
  rcases Nat.lt_or_eq_of_le h with h | h
  · exact fun hl => posK_not xs k (by omega) ((rises_at hr h hj).trans hl)
  · subst h; exact posK_not xs k hj
theorem isK_eq (xs : List Pr) (k : ByteArray) (h : posK xs k < xs.length) : isK xs k = (cmpS (pat xs (posK xs k)).1 k == 0) := by
  unfold isK
  by_cases e : (pat xs (posK xs k)).1 = k
  · rw [(cmpS_zero _ _).2 e]; simp [h, e]
  · have : cmpS (pat xs (posK xs k)).1 k ≠ 0 := fun h0 => e ((cmpS_zero _ _).1 h0)
    simp [e, this]
theorem isK_bytes (xs : List Pr) (k : ByteArray) (h : posK xs k < xs.length) : isK xs k = ((pat xs (posK xs k)).1.toList == k.toList) := by
  unfold isK
  by_cases e : (pat xs (posK xs k)).1 = k
  · simp [h, e]
  · have : (pat xs (posK xs k)).1.toList ≠ k.toList := fun h0 => e (bytes_ext (by rw [ByteArray.toList_eq, ByteArray.toList_eq] at h0; exact h0))
    simp [e, this]
theorem isK_end (xs : List Pr) (k : ByteArray) (h : ¬ posK xs k < xs.length) : isK xs k = false := by unfold isK; simp [h]
/-- the function that Find compares by, as a value -/
def fn48 : Value := .func (.func 44) #[] #[]

set_option maxRecDepth 100000 in
set_option maxHeartbeats 8000000 in
theorem bsearch (A : Option Addr) (c : Nat) (xs : List Pr) (k : ByteArray) (w : World) (hR : Rd w A xs) (hn : xs.length ≤ 1000) (hr : RisesL xs) :
    Calls Tryz.prog 43 #[.slice A xs.length c, .string k, fn48] w fun e w' => e = .returned (.tuple #[.int .i64 (posK xs k), .bool (isK xs k)]) ∧ Below w.heap.size w w' := by
  obtain ⟨N, hN⟩ : ∃ N, N = xs.length := ⟨_, rfl⟩
  obtain ⟨P, hP⟩ : ∃ P, P = posK xs k := ⟨_, rfl⟩
  have hPN : P ≤ N := by rw [hP, hN]; exact posK_le _ _
  rw [← hN] at hn ⊢
  rw [← hP]
  have HN := Lib.hid hN
  have HP := Lib.hid hP
  have HR := Lib.hid hR
  have HS := Lib.hid hr
  clear hN hP hR hr
  unfold fn48
  go_enter Tryz.func43, Tryz.ntmps43
  go_wp2_with fail
  go_loopw [9, 10] (fun vi vj wr => ∃ (i j : Nat), vi = .int .i64 i ∧ vj = .int .i64 j ∧ i ≤ P ∧ P ≤ j ∧ j ≤ N ∧ Below w.heap.size w wr) (fun vi vj wr => (intOf vj).toNat - (intOf vi).toNat)
  case atStart => exact ⟨0, N, rfl, rfl, Nat.zero_le _, hPN, Nat.le_refl _, Below.refl _ _⟩
  case round =>
    obtain ⟨i, j, rfl, rfl, hi, hij, hj, hB⟩ := hrel
    have hRd := HR.out.below hB
    by_cases hlt : i < j
    · obtain ⟨h, hh⟩ : ∃ h, h = (i + j) / 2 := ⟨_, rfl⟩
      have B1 : i ≤ h ∧ h < j := by omega
      have E1 : IntKind.i64.wrap ((i : Int) + (j : Int)) = (i : Int) + (j : Int) := IntWalk.i64_in _ (by omega)
      have E2 : ((i : Int) + (j : Int)) / 2 = (h : Int) := by omega
      have E3 : IntKind.i64.wrap ((h : Int) + 1) = ((h + 1 : Nat) : Int) := by rw [IntWalk.i64_in _ (by omega)]; omega
      clear hh
      obtain ⟨g, off, rfl, c0, c1⟩ := hRd.at h (by have := HN.out; omega)
      have B2 : (h : Int) < (N : Int) := by omega
      clear hRd
      go_wp2_with fail
      refine (cmp48 (pat xs h) k _).mono ?_
      rintro e w1 ⟨rfl, hb1⟩
      have hB1 := hB.trans (hb1.mono hB.size)
      clear hb1 hB c0 c1
      by_cases hcmp : cmpS (pat xs h).1 k < 0
      · have S : h + 1 ≤ P := by
          rcases Nat.lt_or_ge h P with q | q
          · exact q
          · exact absurd hcmp (posK_ge HS.out k h (by rw [← HP.out]; exact q) (by rw [← HN.out]; omega))
        go_wp2_with fail
        refine ⟨⟨h + 1, j, by go_num, rfl, S, hij, hj, hB1⟩, ?_⟩
        simp [intOf]; omega
      · have S : P ≤ h := by
          rcases Nat.lt_or_ge h P with q | q
          · exact absurd (posK_lt xs k h (by rw [← HP.out]; exact q)) hcmp
          · exact q
        have hge : 0 ≤ cmpS (pat xs h).1 k := by omega
        go_wp2_with fail
        refine ⟨⟨i, h, rfl, rfl, hi, S, by omega, hB1⟩, ?_⟩
        simp [intOf]; omega
    · obtain rfl : i = P := by omega
      by_cases hend : i < N
      · obtain ⟨g, off, rfl, c0, c1⟩ := hRd.at i (by have := HN.out; omega)
        have B2 : (i : Int) < (N : Int) := by omega
        clear hRd
        have HI := Lib.hid (isK_eq xs k (by rw [← HP.out, ← HN.out]; exact hend))
        go_wp2_with fail
        refine (cmp48 (pat xs i) k _).mono ?_
        rintro e w1 ⟨rfl, hb1⟩
        have hB1 := hB.trans (hb1.mono hB.size)
        clear hb1 hB c0 c1
        go_wp2_with fail
        go_ret2
        have e1 := HI.out
        rw [← HP.out] at e1
        rw [e1]
        exact ⟨rfl, hB1⟩
      · have HI := Lib.hid (isK_end xs k (by rw [← HP.out, ← HN.out]; exact hend))
        have B2 : ¬ ((i : Int) < (N : Int)) := by omega
        go_wp2_with fail
        go_ret2
        rw [HI.out]
        exact ⟨rfl, hB⟩
set_option maxRecDepth 100000 in
set_option maxHeartbeats 2000000 in
theorem find_any (A : Option Addr) (c : Nat) (xs : List Pr) (k : ByteArray) (w : World) (hR : Rd w A xs) (hn : xs.length ≤ 1000) (hr : RisesL xs) :
    Calls Tryz.prog 24 #[.slice A xs.length c, .string k] w fun e w' => e = .returned (.tuple #[.int .i64 (posK xs k), .bool (isK xs k)]) ∧ Below w.heap.size w w' := by
  have hb := bsearch A c xs k w hR hn hr
  unfold fn48 at hb
  go_enter Tryz.func24, Tryz.ntmps24
  go_wp2_with fail
  refine hb.mono ?_
  rintro e w1 ⟨rfl, hB⟩
  go_wp2_with fail
  go_ret2
  exact ⟨rfl, hB⟩
end Go.Proofs.YtfmbikmpobieoaaGreat
/- The reference's Find; what stands around a key in a rising list. -/
namespace Go.Proofs.YtfmbikmpobieoaaGreat
open Go.RowKit Go.Lib
set_option linter.unusedVariables false
set_option maxRecDepth 100000
set_option linter.unusedSimpArgs false
set_option maxRecDepth 100000 in
set_option maxHeartbeats 8000000 in
theorem refFind_any (A : Option Addr) (c : Nat) (xs : List Pr) (k : ByteArray) (w : World) (hR : Rd w A xs) (hn : xs.length ≤ 1000) (hz : Sized xs) (hk : k.size ≤ maxLen) :
    Calls Tryz.prog 28 #[.slice A xs.length c, .string k] w fun e w' => e = .returned (.tuple #[.int .i64 (posK xs k), .bool (isK xs k)]) ∧ ∃ n, w' = w.drewN n := by
  obtain ⟨N, hN⟩ : ∃ N, N = xs.length := ⟨_, rfl⟩
  obtain ⟨P, hP⟩ : ∃ P, P = posK xs k := ⟨_, rfl⟩
  have hPN : P ≤ N := by rw [hP, hN]; exact posK_le _ _
  rw [← hN] at hn ⊢
  rw [← hP]
  have HN := Lib.hid hN
  have HP := Lib.hid hP
  have HR := Lib.hid hR
  have HZ := Lib.hid hz
  have HK := Lib.hid hk
  clear hN hP hR hz hk
  go_enter Tryz.func28, Tryz.ntmps28
  go_wp2_with fail
  go_loopw [6] (fun vi wr => ∃ (i : Nat), vi = .int .i64 i ∧ i ≤ P ∧ ∃ q, wr = w.drewN q) (fun vi wr => N - (intOf vi).toNat)
  case atStart => exact ⟨0, rfl, Nat.zero_le _, 0, rfl⟩
  case round =>
    obtain ⟨i, rfl, hi, q, rfl⟩ := hrel
    have hRd := HR.out.drewN q
    have hdd : ∀ z, (w.drewN q).drewN z = w.drewN (q + z) := fun z => by simp [World.drewN, Nat.add_assoc]
    have HDD := Lib.hid hdd
    clear hdd
    generalize hW : w.drewN q = W at *
    have HW := Lib.hid hW
    clear hW
    by_cases hlt : i < N
    · obtain ⟨g, off, rfl, c0, c1⟩ := hRd.at i (by have := HN.out; omega)
      have B2 : (i : Int) < (N : Int) := by omega
      have E3 : IntKind.i64.wrap ((i : Int) + 1) = ((i + 1 : Nat) : Int) := by rw [IntWalk.i64_in _ (by omega)]; omega
      clear hRd
      have hl := fun W => less_any (pat xs i).1 k W (HZ.out i) HK.out
      cases hv : ltB (pat xs i).1 k with
      | true =>
        have S : i + 1 ≤ P := by
          rcases Nat.lt_or_ge i P with q | q
          · exact q
          · obtain rfl : i = P := by omega
            have h1 := (ltB_iff _ _).1 hv
            rw [HP.out] at h1
            exact absurd h1 (posK_not xs k (by rw [← HP.out, ← HN.out]; exact hlt))
        rw [hv] at hl
        go_wp2_with fail
        refine (hl _).mono ?_
        rintro e w1 ⟨rfl, n1, rfl⟩
        go_wp2_with fail
        exact ⟨⟨i + 1, by go_num, S, _, HDD.out n1⟩, by simp [intOf]; omega⟩
      | false =>
        obtain rfl : i = P := by
          rcases Nat.lt_or_ge i P with q | q
          · have h1 := (ltB_iff _ _).2 (posK_lt xs k i (by rw [← HP.out]; exact q))
            rw [hv] at h1; cases h1
          · omega
        rw [hv] at hl
        have HI := Lib.hid (isK_bytes xs k (by rw [← HP.out, ← HN.out]; exact hlt))
        go_wp2_with fail
        refine (hl _).mono ?_
        rintro e w1 ⟨rfl, n1, rfl⟩
        have c0' : (W.drewN n1).cell? ⟨g, off + i * 2, none⟩ = some (.string (pat xs i).1) := c0
        have hdw : W.drewN n1 = w.drewN (q + n1) := HDD.out n1
        have HDW := Lib.hid hdw
        clear c0 c1 hdw HDD
        generalize W.drewN n1 = W1 at *
        go_wp2_with fail
        go_quiet (fail)
        go_wp2_with fail
        go_ret2
        have e1 := HI.out
        rw [← HP.out] at e1
        rw [e1]
        refine ⟨rfl, q + n1 + nq, ?_⟩
        rw [HDW.out]; simp [World.drewN, Nat.add_assoc]
    · obtain rfl : i = P := by omega
      have HI := Lib.hid (isK_end xs k (by rw [← HP.out, ← HN.out]; exact hlt))
      have B2 : decide ((i : Int) < (N : Int)) = false := by rw [decide_eq_false_iff_not]; omega
      go_wp2_with fail
      go_quiet (fail)
      go_wp2_with fail
      go_ret2
      rw [HI.out]
      exact ⟨rfl, _, HDD.out nq⟩
/-- those less than a key -/
def lessK (xs : List Pr) (k : ByteArray) : List Pr := xs.take (posK xs k)
/-- those greater -/
def moreK (xs : List Pr) (k : ByteArray) : List Pr := xs.drop (posK xs k + if isK xs k = true then 1 else 0)
theorem Rd.take {w : World} {A : Option Addr} {xs : List Pr} (h : Rd w A xs) (n : Nat) : Rd w A (xs.take n) := fun j p hj => by
  rw [List.getElem?_take] at hj
  split at hj
  · exact h j p hj
  · cases hj
theorem Rd.drop {w : World} {g off : Nat} {xs : List Pr} (h : Rd w (some ⟨g, off, none⟩) xs) (n : Nat) : Rd w (some ⟨g, off + n * 2, none⟩) (xs.drop n) := fun j p hj => by
  rw [List.getElem?_drop] at hj
  obtain ⟨g', off', e, h1, h2⟩ := h (n + j) p hj
  simp at e
  obtain ⟨rfl, rfl⟩ := e
  refine ⟨_, _, rfl, ?_, ?_⟩
  · rw [show off + n * 2 + j * 2 = off + (n + j) * 2 by omega]; exact h1
  · rw [show off + n * 2 + j * 2 + 1 = off + (n + j) * 2 + 1 by omega]; exact h2
/-- what is told of those around a key -/
def AroundPost (xs : List Pr) (k : ByteArray) (w : World) (e : Ending) (w' : World) : Prop :=
  ∃ A1 c1 A2 c2, e = .returned (.tuple #[.slice A1 (lessK xs k).length c1, .slice A2 (moreK xs k).length c2]) ∧ Rd w' A1 (lessK xs k) ∧ Rd w' A2 (moreK xs k) ∧ (A1 = none → c1 = 0) ∧ (A2 = none → c2 = 0) ∧ Below w.heap.size w w'
theorem around_end {A : Option Addr} {c P Q : Nat} {xs : List Pr} {k : ByteArray} {w w' : World} (hR : Rd w' A xs) (hB : Below w.heap.size w w') (hP : P = posK xs k) (hQ : Q = posK xs k + if isK xs k = true then 1 else 0) (hPN : P ≤ xs.length) (hc : xs.length ≤ c) (h00 : A = none → c = 0) (n : Nat) (A2 : Option Addr) (hA2 : A2 = if c = Q then A else A.map (·.add (Q * 2))) :
    AroundPost xs k w (.returned (.tuple #[.slice A P c, .slice A2 (xs.length - Q) (c - Q)])) (w'.drewN n) := by
  have e1 : (lessK xs k).length = P := by unfold lessK; rw [List.length_take, ← hP]; omega
  have e2 : (moreK xs k).length = xs.length - Q := by unfold moreK; rw [List.length_drop, ← hQ]
  refine ⟨A, c, A2, c - Q, by rw [e1, e2], (hR.take _).drewN n, ?_, h00, (fun hn => by
    subst hA2
    split at hn
    · rw [h00 hn]; simp
    · rw [h00 (by simpa using hn)]; simp), ⟨hB.os, hB.tape, hB.output, hB.size, hB.block⟩⟩
  refine Rd.drewN (w := w') ?_ n
  unfold moreK
  rw [← hQ]
  by_cases h0 : xs.length ≤ Q
  · rw [List.drop_eq_nil_of_le h0]
    intro j p hj
    simp at hj
  · obtain ⟨g, off, rfl⟩ := hR.starts (by omega)
    rw [if_neg (by omega)] at hA2
    rw [hA2, Option.map_some, addr_add]
    exact hR.drop Q
end Go.Proofs.YtfmbikmpobieoaaGreat
/- Put and Drop of package pair. -/
namespace Go.Proofs.YtfmbikmpobieoaaGreat
open Go.RowKit Go.Lib
set_option linter.unusedVariables false
set_option maxRecDepth 100000
set_option linter.unusedSimpArgs false
theorem lessK_cons (q : Pr) (r : List Pr) (k : ByteArray) : lessK (q :: r) k = if ltB q.1 k = true then q :: lessK r k else [] := by
  unfold lessK
  rw [posK]
  split <;> simp
theorem isK_cons_lt (q : Pr) (r : List Pr) (k : ByteArray) (h : ltB q.1 k = true) : isK (q :: r) k = isK r k := by
  unfold isK
  rw [posK, if_pos h, pat_succ]
  simp
theorem isK_cons_ge (q : Pr) (r : List Pr) (k : ByteArray) (h : ¬ ltB q.1 k = true) : isK (q :: r) k = decide (q.1 = k) := by
  unfold isK
  rw [posK, if_neg h, pat_zero]
  simp
theorem moreK_lt (q : Pr) (r : List Pr) (k : ByteArray) (h : ltB q.1 k = true) : moreK (q :: r) k = moreK r k := by
  unfold moreK
  rw [isK_cons_lt q r k h, posK, if_pos h, Nat.add_right_comm, List.drop_succ_cons]
theorem moreK_eq (q : Pr) (r : List Pr) (k : ByteArray) (h : ¬ ltB q.1 k = true) (he : q.1 = k) : moreK (q :: r) k = r := by
  unfold moreK
  rw [isK_cons_ge q r k h, posK, if_neg h]
  simp [he]
theorem moreK_gt (q : Pr) (r : List Pr) (k : ByteArray) (h : ¬ ltB q.1 k = true) (he : ¬ q.1 = k) : moreK (q :: r) k = q :: r := by
  unfold moreK
  rw [isK_cons_ge q r k h, posK, if_neg h]
  simp [he]
theorem ltB_not_ne {a b : ByteArray} (h : ¬ ltB a b = true) (he : ¬ a = b) : Lt b a := by
  have h1 : Le b a := not_lt_le (fun hc => h ((ltB_iff _ _).2 hc))
  rcases h1.lt_or_eq with h1 | h1
  · exact h1
  · exact absurd h1.symm he
theorem dropK_id (r : List Pr) (k : ByteArray) (h : ∀ x ∈ r, x.1 ≠ k) : dropK r k = r := by
  unfold dropK
  rw [List.filter_eq_self]
  intro x hx
  simp only [Bool.not_eq_true', beq_eq_false_iff_ne, ne_eq]
  exact fun e => h x hx (bytes_ext (by rw [ByteArray.toList_eq, ByteArray.toList_eq] at e; exact e))
theorem dropK_cons_ne (q : Pr) (r : List Pr) (k : ByteArray) (h : q.1 ≠ k) : dropK (q :: r) k = q :: dropK r k := by
  unfold dropK
  rw [List.filter_cons_of_pos]
  simp only [Bool.not_eq_true', beq_eq_false_iff_ne, ne_eq]
  exact fun e => h (bytes_ext (by rw [ByteArray.toList_eq, ByteArray.toList_eq] at e; exact e))
theorem dropK_cons_eq (q : Pr) (r : List Pr) (k : ByteArray) (h : q.1 = k) : dropK (q :: r) k = dropK r k := by
  unfold dropK
  rw [List.filter_cons_of_neg]
  simp [h]
theorem drop_eq (xs : List Pr) (k : ByteArray) (h : RisesL xs) : lessK xs k ++ moreK xs k = dropK xs k := by
  induction xs with
  | nil => simp [lessK, moreK, dropK]
  | cons q r ih =>
    have h' := List.pairwise_cons.1 h
    rw [lessK_cons]
    by_cases hl : ltB q.1 k = true
    · rw [if_pos hl, moreK_lt q r k hl, List.cons_append, ih h'.2, dropK_cons_ne q r k ((ltB_iff _ _).1 hl).ne]
    · rw [if_neg hl, List.nil_append]
      by_cases he : q.1 = k
      · rw [moreK_eq q r k hl he, dropK_cons_eq q r k he]
        rw [dropK_id r k (fun x hx e => by have := h'.1 x hx; rw [he, e] at this; exact this.ne rfl)]
      · have hq := ltB_not_ne hl he
        rw [moreK_gt q r k hl he, dropK_id]
        intro x hx e
        rcases List.mem_cons.1 hx with hx | hx
        · rw [hx] at e; exact he e
        · have := hq.trans (h'.1 x hx); rw [e] at this; exact this.ne rfl
theorem insK_less (p : Pr) (D : List Pr) (h : ∀ x ∈ D, Lt p.1 x.1) : insK p D = p :: D := by
  cases D with
  | nil => rfl
  | cons q r =>
    unfold insK
    rw [if_pos ((ltB_iff _ _).2 (h q (by simp)))]
theorem put_eq (xs : List Pr) (p : Pr) (h : RisesL xs) : lessK xs p.1 ++ (p :: moreK xs p.1) = putK xs p := by
  induction xs with
  | nil => simp [lessK, moreK, putK, dropK, insK]
  | cons q r ih =>
    have h' := List.pairwise_cons.1 h
    rw [lessK_cons]
    by_cases hl : ltB q.1 p.1 = true
    · have hlt := (ltB_iff _ _).1 hl
      have hn : ¬ ltB p.1 q.1 = true := fun hc => (hlt.trans ((ltB_iff _ _).1 hc)).ne rfl
      rw [if_pos hl, moreK_lt q r p.1 hl, List.cons_append, ih h'.2]
      unfold putK
      rw [dropK_cons_ne q r p.1 hlt.ne]
      rw [insK, if_neg hn]
    · rw [if_neg hl, List.nil_append]
      unfold putK
      rw [← drop_eq (q :: r) p.1 h, lessK_cons, if_neg hl, List.nil_append, insK_less]
      intro x hx
      by_cases he : q.1 = p.1
      · rw [moreK_eq q r p.1 hl he] at hx
        rw [← he]; exact h'.1 x hx
      · have hq := ltB_not_ne hl he
        rw [moreK_gt q r p.1 hl he] at hx
        rcases List.mem_cons.1 hx with hx | hx
        · rw [hx]; exact hq
        · exact hq.trans (h'.1 x hx)
theorem less_le (xs : List Pr) (k : ByteArray) : (lessK xs k).length ≤ xs.length := by unfold lessK; rw [List.length_take]; omega
theorem more_le (xs : List Pr) (k : ByteArray) : (moreK xs k).length ≤ xs.length := by unfold moreK; rw [List.length_drop]; omega
end Go.Proofs.YtfmbikmpobieoaaGreat
/- The reference's Sorted. -/
namespace Go.Proofs.YtfmbikmpobieoaaGreat
open Go.RowKit Go.Lib
set_option linter.unusedVariables false
set_option maxRecDepth 100000
set_option linter.unusedSimpArgs false
theorem sized_mem {L : List Pr} (h : ∀ x ∈ L, x.1.size ≤ maxLen) : Sized L := by
  intro j
  by_cases hj : j < L.length
  · have hm : pat L j ∈ L := by unfold pat; rw [List.getElem?_eq_getElem hj]; exact List.getElem_mem _
    exact h _ hm
  · unfold pat
    rw [List.getElem?_eq_none (by omega)]
    simp [maxLen]
theorem mem_sized {L : List Pr} (h : Sized L) : ∀ x ∈ L, x.1.size ≤ maxLen := by
  intro x hx
  obtain ⟨i, hi, e⟩ := List.getElem_of_mem hx
  have := h i
  unfold pat at this
  rw [List.getElem?_eq_getElem hi] at this
  simpa [e] using this
theorem insK_length (p : Pr) (D : List Pr) : (insK p D).length = D.length + 1 := by
  induction D with
  | nil => rfl
  | cons q r ih => unfold insK; split <;> simp [ih]
theorem putK_length (xs : List Pr) (p : Pr) : (putK xs p).length ≤ xs.length + 1 := by
  unfold putK
  rw [insK_length]
  have : (dropK xs p.1).length ≤ xs.length := List.length_filter_le _ _
  omega
theorem sized_put {xs : List Pr} {p : Pr} (h : Sized xs) (hp : p.1.size ≤ maxLen) : Sized (putK xs p) := by
  refine sized_mem fun x hx => ?_
  unfold putK at hx
  rcases (ins_mem p x _).1 hx with rfl | hx
  · exact hp
  · exact mem_sized h x ((drop_mem xs p.1 x).1 hx).1
theorem take_pat (xs : List Pr) (j : Nat) (h : j < xs.length) : xs.take (j + 1) = xs.take j ++ [pat xs j] := by
  rw [List.take_succ_eq_append_getElem h]
  simp [pat, h]
end Go.Proofs.YtfmbikmpobieoaaGreat
