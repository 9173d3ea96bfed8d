/- Put and Drop of package pair. -/
import Derived.Test.YtfipifjlmepooaaRc
namespace Go.Proofs.Ytfipifjlmepooaa
open Go.RowKit Go.Lib
set_option linter.unusedVariables false
set_option linter.unusedSimpArgs false
theorem lessK_cons (q : Pr) (r : List Pr) (k : ByteArray) : lessK (q :: r) k = if ltB q.1 k = true then q :: lessK r k else [] := by
  unfold lessK
  rw [posK]
  split <;> simp
theorem isK_cons_lt (q : Pr) (r : List Pr) (k : ByteArray) (h : ltB q.1 k = true) : isK (q :: r) k = isK r k := by
  unfold isK
  rw [posK, if_pos h, pat_succ]
  simp
theorem isK_cons_ge (q : Pr) (r : List Pr) (k : ByteArray) (h : ¬ ltB q.1 k = true) : isK (q :: r) k = decide (q.1 = k) := by
  unfold isK
  rw [posK, if_neg h, pat_zero]
  simp
theorem moreK_lt (q : Pr) (r : List Pr) (k : ByteArray) (h : ltB q.1 k = true) : moreK (q :: r) k = moreK r k := by
  unfold moreK
  rw [isK_cons_lt q r k h, posK, if_pos h, Nat.add_right_comm, List.drop_succ_cons]
theorem moreK_eq (q : Pr) (r : List Pr) (k : ByteArray) (h : ¬ ltB q.1 k = true) (he : q.1 = k) : moreK (q :: r) k = r := by
  unfold moreK
  rw [isK_cons_ge q r k h, posK, if_neg h]
  simp [he]
theorem moreK_gt (q : Pr) (r : List Pr) (k : ByteArray) (h : ¬ ltB q.1 k = true) (he : ¬ q.1 = k) : moreK (q :: r) k = q :: r := by
  unfold moreK
  rw [isK_cons_ge q r k h, posK, if_neg h]
  simp [he]
theorem ltB_not_ne {a b : ByteArray} (h : ¬ ltB a b = true) (he : ¬ a = b) : Lt b a := by
  have h1 : Le b a := not_lt_le (fun hc => h ((ltB_iff _ _).2 hc))
  rcases h1.lt_or_eq with h1 | h1
  · exact h1
  · exact absurd h1.symm he
theorem dropK_id (r : List Pr) (k : ByteArray) (h : ∀ x ∈ r, x.1 ≠ k) : dropK r k = r := by
  unfold dropK
  rw [List.filter_eq_self]
  intro x hx
  simp only [Bool.not_eq_true', beq_eq_false_iff_ne, ne_eq]
  exact fun e => h x hx (bytes_ext (by rw [ByteArray.toList_eq, ByteArray.toList_eq] at e; exact e))
theorem dropK_cons_ne (q : Pr) (r : List Pr) (k : ByteArray) (h : q.1 ≠ k) : dropK (q :: r) k = q :: dropK r k := by
  unfold dropK
  rw [List.filter_cons_of_pos]
  simp only [Bool.not_eq_true', beq_eq_false_iff_ne, ne_eq]
  exact fun e => h (bytes_ext (by rw [ByteArray.toList_eq, ByteArray.toList_eq] at e; exact e))
theorem dropK_cons_eq (q : Pr) (r : List Pr) (k : ByteArray) (h : q.1 = k) : dropK (q :: r) k = dropK r k := by
  unfold dropK
  rw [List.filter_cons_of_neg]
  simp [h]
theorem drop_eq (xs : List Pr) (k : ByteArray) (h : RisesL xs) : lessK xs k ++ moreK xs k = dropK xs k := by
  induction xs with
  | nil => simp [lessK, moreK, dropK]
  | cons q r ih =>
    have h' := List.pairwise_cons.1 h
    rw [lessK_cons]
    by_cases hl : ltB q.1 k = true
    · rw [if_pos hl, moreK_lt q r k hl, List.cons_append, ih h'.2, dropK_cons_ne q r k ((ltB_iff _ _).1 hl).ne]
    · rw [if_neg hl, List.nil_append]
      by_cases he : q.1 = k
      · rw [moreK_eq q r k hl he, dropK_cons_eq q r k he]
        rw [dropK_id r k (fun x hx e => by have := h'.1 x hx; rw [he, e] at this; exact this.ne rfl)]
      · have hq := ltB_not_ne hl he
        rw [moreK_gt q r k hl he, dropK_id]
        intro x hx e
        rcases List.mem_cons.1 hx with hx | hx
        · rw [hx] at e; exact he e
        · have := hq.trans (h'.1 x hx); rw [e] at this; exact this.ne rfl
theorem insK_less (p : Pr) (D : List Pr) (h : ∀ x ∈ D, Lt p.1 x.1) : insK p D = p :: D := by
  cases D with
  | nil => rfl
  | cons q r =>
    unfold insK
    rw [if_pos ((ltB_iff _ _).2 (h q (by simp)))]
theorem put_eq (xs : List Pr) (p : Pr) (h : RisesL xs) : lessK xs p.1 ++ (p :: moreK xs p.1) = putK xs p := by
  induction xs with
  | nil => simp [lessK, moreK, putK, dropK, insK]
  | cons q r ih =>
    have h' := List.pairwise_cons.1 h
    rw [lessK_cons]
    by_cases hl : ltB q.1 p.1 = true
    · have hlt := (ltB_iff _ _).1 hl
      have hn : ¬ ltB p.1 q.1 = true := fun hc => (hlt.trans ((ltB_iff _ _).1 hc)).ne rfl
      rw [if_pos hl, moreK_lt q r p.1 hl, List.cons_append, ih h'.2]
      unfold putK
      rw [dropK_cons_ne q r p.1 hlt.ne]
      rw [insK, if_neg hn]
    · rw [if_neg hl, List.nil_append]
      unfold putK
      rw [← drop_eq (q :: r) p.1 h, lessK_cons, if_neg hl, List.nil_append, insK_less]
      intro x hx
      by_cases he : q.1 = p.1
      · rw [moreK_eq q r p.1 hl he] at hx
        rw [← he]; exact h'.1 x hx
      · have hq := ltB_not_ne hl he
        rw [moreK_gt q r p.1 hl he] at hx
        rcases List.mem_cons.1 hx with hx | hx
        · rw [hx]; exact hq
        · exact hq.trans (h'.1 x hx)
theorem Own.base {b b' : Nat} {w : World} {v : Value} {xs : List Pr} (h : Own b w v xs) (hb : b' ≤ b) : Own b' w v xs := by
  refine ⟨h.1, ?_⟩
  rcases h.2 with h1 | ⟨g, cap, cur, h1, hg, h2⟩
  · exact .inl h1
  · exact .inr ⟨g, cap, cur, h1, Nat.le_trans hb hg, h2⟩
theorem less_le (xs : List Pr) (k : ByteArray) : (lessK xs k).length ≤ xs.length := by unfold lessK; rw [List.length_take]; omega
theorem more_le (xs : List Pr) (k : ByteArray) : (moreK xs k).length ≤ xs.length := by unfold moreK; rw [List.length_drop]; omega
theorem segs2 {w : World} {A1 A2 : Option Addr} {c1 c2 : Nat} {x y : List Pr} (h1 : Rd w A1 x) (h2 : Rd w A2 y) (e1 : A1 = none → c1 = 0) (e2 : A2 = none → c2 = 0) :
    Segs (w.alloc (.cells #[.slice A1 x.length c1, .slice A2 y.length c2] 22)) w.heap.size [(A1, c1, x), (A2, c2, y)] := by
  have hB := (Below.refl _ w).alloc (Nat.le_refl _) (.cells #[.slice A1 x.length c1, .slice A2 y.length c2] 22)
  have hbl := Blk.new w 22 #[.slice A1 x.length c1, .slice A2 y.length c2]
  intro j s hj
  match j, hj with
  | 0, hj => simp at hj; subst hj; exact ⟨hbl.cell 0, h1.below hB, e1⟩
  | 1, hj => simp at hj; subst hj; exact ⟨hbl.cell 1, h2.below hB, e2⟩
  | j + 2, hj => simp at hj
theorem segs3 {w : World} {A1 A2 A3 : Option Addr} {c1 c2 c3 : Nat} {x y z : List Pr} (h1 : Rd w A1 x) (h2 : Rd w A2 y) (h3 : Rd w A3 z) (e1 : A1 = none → c1 = 0) (e2 : A2 = none → c2 = 0) (e3 : A3 = none → c3 = 0) :
    Segs (w.alloc (.cells #[.slice A1 x.length c1, .slice A2 y.length c2, .slice A3 z.length c3] 22)) w.heap.size [(A1, c1, x), (A2, c2, y), (A3, c3, z)] := by
  have hB := (Below.refl _ w).alloc (Nat.le_refl _) (.cells #[.slice A1 x.length c1, .slice A2 y.length c2, .slice A3 z.length c3] 22)
  have hbl := Blk.new w 22 #[.slice A1 x.length c1, .slice A2 y.length c2, .slice A3 z.length c3]
  intro j s hj
  match j, hj with
  | 0, hj => simp at hj; subst hj; exact ⟨hbl.cell 0, h1.below hB, e1⟩
  | 1, hj => simp at hj; subst hj; exact ⟨hbl.cell 1, h2.below hB, e2⟩
  | 2, hj => simp at hj; subst hj; exact ⟨hbl.cell 2, h3.below hB, e3⟩
  | j + 3, hj => simp at hj
set_option maxRecDepth 100000 in
set_option maxHeartbeats 4000000 in
theorem drop_any (A : Option Addr) (c : Nat) (xs : List Pr) (k : ByteArray) (w : World) (hR : Rd w A xs) (hn : xs.length ≤ 1000) (hr : RisesL xs) (hc : xs.length ≤ c) (h00 : A = none → c = 0) :
    Calls Try.prog 25 #[.slice A xs.length c, .string k] w fun e w' => ∃ v, e = .returned v ∧ Own w.heap.size w' v (dropK xs k) ∧ Below w.heap.size w w' := by
  have hl := less_le xs k
  have hm := more_le xs k
  go_enter Try.func25, Try.ntmps25
  go_wp2_with fail
  refine (around_any A c xs k w hR hn hr hc h00).mono ?_
  rintro e w1 ⟨A1, c1, A2, c2, rfl, h1, h2, e1, e2, hB⟩
  have hS := segs2 h1 h2 e1 e2
  have hB2 := hB.alloc hB.size (.cells #[.slice A1 (lessK xs k).length c1, .slice A2 (moreK xs k).length c2] 22)
  have HD := Lib.hid (drop_eq xs k hr)
  clear h1 h2 hr hR
  go_wp2_with fail
  refine (concat_any _ 2 [(A1, c1, lessK xs k), (A2, c2, moreK xs k)] _ hS (by simp) (by intro s hs; simp at hs; rcases hs with rfl | rfl <;> simp <;> omega)).mono ?_
  rintro e w2 ⟨v, rfl, hO, hB3⟩
  go_wp2_with fail
  go_ret
  have e3 : catL [(A1, c1, lessK xs k), (A2, c2, moreK xs k)] = dropK xs k := by rw [← HD.out]; simp [catL]
  rw [e3] at hO
  exact ⟨_, rfl, hO.base hB2.size, hB2.trans (hB3.mono hB2.size)⟩
set_option maxRecDepth 100000 in
set_option maxHeartbeats 4000000 in
theorem put_any (A : Option Addr) (c : Nat) (xs : List Pr) (p : Pr) (w : World) (hR : Rd w A xs) (hn : xs.length ≤ 1000) (hr : RisesL xs) (hc : xs.length ≤ c) (h00 : A = none → c = 0) :
    Calls Try.prog 24 #[.slice A xs.length c, p.v] w fun e w' => ∃ v, e = .returned v ∧ Own w.heap.size w' v (putK xs p) ∧ Below w.heap.size w w' := by
  have hl := less_le xs p.1
  have hm := more_le xs p.1
  unfold Pr.v
  have hB0 := (Below.refl _ w).alloc (Nat.le_refl _) (.cells #[.string p.1, .string p.2] 33)
  have hbx := Blk.new w 33 #[.string p.1, .string p.2]
  have hR0 := hR.below hB0
  go_enter Try.func24, Try.ntmps24
  go_upto_region 1 with (fail)
  generalize w.alloc (.cells #[.string p.1, .string p.2] 33) = w0 at *
  have hsz : w.heap.size ≤ w0.heap.size := hB0.size
  have b0 : w0.cell? ⟨w.heap.size, 0, none⟩ = some (.string p.1) := hbx.cell 0
  have b1 : w0.cell? ⟨w.heap.size, 1, none⟩ = some (.string p.2) := hbx.cell 1
  clear hbx
  go_wp2_with fail
  refine (around_any A c xs p.1 w0 hR0 hn hr hc h00).mono ?_
  rintro e w1 ⟨A1, c1, A2, c2, rfl, h1, h2, e1, e2, hB⟩
  have b0' := (hB.cell (World.block_lt_of_cell? w0 _ b0)).trans b0
  have b1' := (hB.cell (World.block_lt_of_cell? w0 _ b1)).trans b1
  have hB1 := hB0.trans (hB.mono hsz)
  have hBa := (Below.refl _ w1).alloc (Nat.le_refl _) (.cells #[.string p.1, .string p.2] 33)
  have hR1 := Rd.of_cells (xs := [p]) (Blk.new w1 33 _)
  have hB2 := hB1.alloc hB1.size (.cells #[.string p.1, .string p.2] 33)
  have hS : Segs ((w1.alloc (.cells #[.string p.1, .string p.2] 33)).alloc (.cells #[.slice A1 (lessK xs p.1).length c1, .slice (some ⟨w1.heap.size, 0, none⟩) 1 1, .slice A2 (moreK xs p.1).length c2] 22)) (w1.alloc (.cells #[.string p.1, .string p.2] 33)).heap.size [(A1, c1, lessK xs p.1), (some ⟨w1.heap.size, 0, none⟩, 1, [p]), (A2, c2, moreK xs p.1)] := segs3 (h1.below hBa) hR1 (h2.below hBa) e1 (fun h => by cases h) e2
  rw [show (w1.alloc (.cells #[.string p.1, .string p.2] 33)).heap.size = w1.heap.size + 1 by simp] at hS
  have hB3 := hB2.alloc hB2.size (.cells #[.slice A1 (lessK xs p.1).length c1, .slice (some ⟨w1.heap.size, 0, none⟩) 1 1, .slice A2 (moreK xs p.1).length c2] 22)
  have HD := Lib.hid (put_eq xs p hr)
  clear h1 h2 hr hR hR0 hR1 hB hB0 hB1 hBa b0 b1
  go_wp2_with fail
  clear b0' b1' hB2
  generalize (w1.alloc (.cells #[.string p.1, .string p.2] 33)).alloc (.cells #[.slice A1 (lessK xs p.1).length c1, .slice (some ⟨w1.heap.size, 0, none⟩) 1 1, .slice A2 (moreK xs p.1).length c2] 22) = W3 at *
  refine (concat_any (w1.heap.size + 1) 3 [(A1, c1, lessK xs p.1), (some ⟨w1.heap.size, 0, none⟩, 1, [p]), (A2, c2, moreK xs p.1)] _ hS (by simp) (by intro s hs; simp at hs; rcases hs with rfl | rfl | rfl <;> simp <;> omega)).mono ?_
  rintro e w2 ⟨v, rfl, hO, hB4⟩
  go_wp2_with fail
  go_ret
  have e3 : catL [(A1, c1, lessK xs p.1), (some ⟨w1.heap.size, 0, none⟩, 1, [p]), (A2, c2, moreK xs p.1)] = putK xs p := by rw [← HD.out]; simp [catL]
  rw [e3] at hO
  exact ⟨_, rfl, hO.base hB3.size, hB3.trans (hB4.mono hB3.size)⟩
end Go.Proofs.Ytfipifjlmepooaa
