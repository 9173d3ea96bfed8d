/- Which of two keys is less, as the reference tells it. -/
import Derived.Test.YtimhdegdmdilaaaHac
import Derived.Test.YtimhdegdmdilaaaHx
import Derived.Test.YtimhdegdmdilaaaHab
import Derived.Test.YtimhdegdmdilaaaHaa
namespace Go.Proofs.Ytimhdegdmdilaaa
open Go.RowKit Go.Lib
set_option linter.unusedVariables false
set_option maxRecDepth 100000
set_option maxRecDepth 100000
set_option linter.unusedSimpArgs false
set_option linter.unnecessarySimpa false
theorem cb_app (p u v : List UInt8) : compareBytes (p ++ u) (p ++ v) = compareBytes u v := by
  induction p with
  | nil => rfl
  | cons x p ih =>
    have : ¬ x < x := UInt8.lt_irrefl x
    simp [compareBytes, this, ih]
theorem cb_at {a b : List UInt8} {i : Nat} (h : a.take i = b.take i) : compareBytes a b = compareBytes (a.drop i) (b.drop i) := by
  have := cb_app (a.take i) (a.drop i) (b.drop i)
  rw [List.take_append_drop, h, List.take_append_drop] at this
  exact this
/-- whether one key is less than another -/
def ltB (a b : ByteArray) : Bool := decide (cmpS a b < 0)
theorem ltB_diff {a b : ByteArray} {i : Nat} (h : a.data.toList.take i = b.data.toList.take i) (ha : i < a.data.toList.length) (hb : i < b.data.toList.length) (hne : a.data.toList[i] ≠ b.data.toList[i]) : ltB a b = decide (a.data.toList[i] < b.data.toList[i]) := by
  unfold ltB cmpS
  rw [cb_at h, List.drop_eq_getElem_cons ha, List.drop_eq_getElem_cons hb]
  generalize a.data.toList[i] = x at *
  generalize b.data.toList[i] = y at *
  simp only [compareBytes]
  by_cases h1 : x < y
  · simp [h1]
  · have h2 : y < x := UInt8.lt_of_le_of_ne (UInt8.not_lt.1 h1) (Ne.symm hne)
    simp [h1, h2]
theorem cb_ends {la lb : List UInt8} {i : Nat} (h : la.take i = lb.take i) (hi : i = la.length ∨ i = lb.length) (hia : i ≤ la.length) (hib : i ≤ lb.length) : decide (compareBytes la lb < 0) = decide (la.length < lb.length) := by
  rw [cb_at h]
  have h1 : (la.drop i).length = la.length - i := List.length_drop
  have h2 : (lb.drop i).length = lb.length - i := List.length_drop
  rcases hi with e | e
  · rw [List.drop_of_length_le (l := la) (by omega)]
    cases hd : lb.drop i with
    | nil =>
      rw [hd] at h2
      have : ¬ la.length < lb.length := by simp at h2; omega
      simp [compareBytes, this]
    | cons y r =>
      rw [hd] at h2
      have : la.length < lb.length := by simp at h2; omega
      simp [compareBytes, this]
  · rw [List.drop_of_length_le (l := lb) (by omega)]
    have : ¬ la.length < lb.length := by omega
    cases hd : la.drop i with
    | nil => simp [compareBytes, this]
    | cons y r => simp [compareBytes, this]
theorem ltB_end {a b : ByteArray} {i : Nat} (h : a.data.toList.take i = b.data.toList.take i) (hi : i = a.size ∨ i = b.size) (hia : i ≤ a.size) (hib : i ≤ b.size) : ltB a b = decide (a.size < b.size) :=
  cb_ends h hi hia hib
theorem byte_at (a : ByteArray) (i : Nat) (h : i < a.size) : a.data.toList[i]'h = a[i] := rfl
theorem ltB_at {a b : ByteArray} {i : Nat} (h : a.data.toList.take i = b.data.toList.take i) (ha : i < a.size) (hb : i < b.size) (hne : a[i] ≠ b[i]) : ltB a b = decide (a[i].toNat < b[i].toNat) := by
  have := ltB_diff h ha hb hne
  rw [this]
  rw [decide_eq_decide]
  show a[i] < b[i] ↔ _
  rw [UInt8.lt_iff_toNat_lt]
theorem take_at {a b : ByteArray} {i : Nat} (h : a.data.toList.take i = b.data.toList.take i) (ha : i < a.size) (hb : i < b.size) (he : a[i] = b[i]) : a.data.toList.take (i + 1) = b.data.toList.take (i + 1) := by
  have l1 : i < a.data.toList.length := ha
  have l2 : i < b.data.toList.length := hb
  rw [List.take_succ_eq_append_getElem l1, List.take_succ_eq_append_getElem l2, h]
  congr 2
theorem drew3 (w : World) (x y z : Nat) : ∃ n, ((w.drewN x).drewN y).drewN z = w.drewN n := ⟨x + y + z, by simp [World.drewN, Nat.add_assoc]⟩
set_option maxRecDepth 100000 in
set_option maxHeartbeats 4000000 in
theorem less_any (a b : ByteArray) (w : World) (ha : a.size ≤ maxLen) (hb : b.size ≤ maxLen) : Calls Try.prog 35 #[.string a, .string b] w fun e w' => e = .returned (.bool (ltB a b)) ∧ ∃ n, w' = w.drewN n := by
  unfold maxLen at ha hb
  go_enter Try.func35, Try.ntmps35
  go_wp2_with fail
  go_loopw [5] (fun v wr => ∃ i : Nat, v = .int .i64 i ∧ i ≤ a.size ∧ i ≤ b.size ∧ Hid (a.data.toList.take i = b.data.toList.take i) ∧ ∃ q, wr = w.drewN q) (fun v wr => a.size - (intOf v).toNat)
  case atStart => exact ⟨0, rfl, by omega, by omega, Lib.hid rfl, 0, rfl⟩
  case round =>
    obtain ⟨i, rfl, hia, hib, hE, q, rfl⟩ := hrel
    by_cases h1 : i < a.size
    · have E1 : IntKind.i64.wrap ((i : Int) + 1) = ((i + 1 : Nat) : Int) := by rw [IntWalk.i64_in _ (by omega)]; omega
      by_cases h2 : i < b.size
      · have hd : ∀ k, (w.drewN q).drewN k = w.drewN (q + k) := fun k => by simp [World.drewN, Nat.add_assoc]
        have HD := Lib.hid hd
        clear hd
        by_cases he : a[i] = b[i]
        · have T : (((a[i].toNat : Nat) : Int) != ((b[i].toNat : Nat) : Int)) = false := by rw [he]; simp
          have S := Lib.hid (take_at hE.out h1 h2 he)
          clear he
          go_wp2_with fail
          go_quiet (fail)
          go_wp2_with fail
          exact ⟨⟨i + 1, by go_num, by omega, by omega, S, _, rfl⟩, by simp [intOf]; omega⟩
        · have T : (((a[i].toNat : Nat) : Int) != ((b[i].toNat : Nat) : Int)) = true := by
            rw [bne_iff_ne]
            intro hc
            exact he (UInt8.toNat_inj.1 (by omega))
          have S := Lib.hid (ltB_at hE.out h1 h2 he)
          clear he
          go_wp2_with fail
          go_quiet (fail)
          go_wp2_with fail
          go_quiet (fail)
          go_wp2_with fail
          go_ret
          rw [S.out]
          exact ⟨rfl, drew3 _ _ _ _⟩
      · have S := Lib.hid (ltB_end hE.out (.inr (by omega)) hia hib)
        go_wp2_with fail
        go_ret
        rw [S.out]
        exact ⟨by simp, q, rfl⟩
    · have S := Lib.hid (ltB_end hE.out (.inl (by omega)) hia hib)
      go_wp2_with fail
      go_ret
      rw [S.out]
      exact ⟨by simp, q, rfl⟩
end Go.Proofs.Ytimhdegdmdilaaa
/- Whether a list rises, as package pair and as the reference tell it. -/
namespace Go.Proofs.Ytimhdegdmdilaaa
open Go.RowKit Go.Lib
set_option linter.unusedVariables false
set_option maxRecDepth 100000
set_option maxRecDepth 100000
set_option linter.unusedSimpArgs false
set_option linter.unnecessarySimpa false
theorem bytesLess_eq (x y : List UInt8) : Op.bytesLess x y = decide (compareBytes x y < 0) := by
  induction x generalizing y with
  | nil => cases y <;> simp [Op.bytesLess, compareBytes]
  | cons a x ih =>
    cases y with
    | nil => simp [Op.bytesLess, compareBytes]
    | cons b y =>
      simp only [Op.bytesLess, compareBytes, ih]
      by_cases h1 : a < b
      · simp [h1]
      · by_cases h2 : b < a
        · have : ¬ a = b := fun e => UInt8.ne_of_lt h2 e.symm
          simp [h1, h2, this]
        · have : a = b := UInt8.le_antisymm (UInt8.not_lt.1 h2) (UInt8.not_lt.1 h1)
          simp [h1, h2, this]
theorem bytesLess_ltB (a b : ByteArray) : Op.bytesLess a.toList b.toList = ltB a b := by
  rw [bytesLess_eq, ByteArray.toList_eq, ByteArray.toList_eq]; rfl
theorem geqS (a b : ByteArray) (w : World) : (binOp .geq 9 (.string a) (.string b)).run Try.prog w = .ok (.bool (!ltB a b)) w := by
  have h : binOp .geq 9 (.string a) (.string b) = pure (.bool (!Op.bytesLess a.toList b.toList)) := by simp [binOp, Op.stringOp]
  rw [h, bytesLess_ltB]; rfl
/-- whether each key is less than the next one -/
def risesB : List Pr → Bool
  | x :: y :: r => ltB x.1 y.1 && risesB (y :: r)
  | _ => true
theorem rises_drop (xs : List Pr) (j : Nat) (h : j + 1 < xs.length) : risesB (xs.drop j) = (ltB (pat xs j).1 (pat xs (j + 1)).1 && risesB (xs.drop (j + 1))) := by
  have e : xs.drop j = pat xs j :: pat xs (j + 1) :: xs.drop (j + 2) := by
    rw [List.drop_eq_getElem_cons (by omega), List.drop_eq_getElem_cons h]
    simp [pat, h, (by omega : j < xs.length)]
  have e2 : xs.drop (j + 1) = pat xs (j + 1) :: xs.drop (j + 2) := by
    rw [List.drop_eq_getElem_cons h]
    simp [pat, h]
  rw [e, e2]
  rfl
theorem rises_end (xs : List Pr) (j : Nat) (h : xs.length ≤ j + 1) : risesB (xs.drop j) = true := by
  have hl : (xs.drop j).length ≤ 1 := by rw [List.length_drop]; omega
  match hd : xs.drop j, hl with
  | [], _ => rfl
  | [x], _ => rfl
theorem risesB_iff (xs : List Pr) : risesB xs = true ↔ RisesL xs := by
  induction xs with
  | nil => simp [risesB, RisesL]
  | cons x r ih =>
    cases r with
    | nil => simp [risesB, RisesL]
    | cons y r =>
      have hlt : ltB x.1 y.1 = true ↔ Lt x.1 y.1 := by unfold ltB Lt; simp
      simp only [risesB, Bool.and_eq_true, hlt, ih]
      unfold RisesL
      constructor
      · rintro ⟨h1, h2⟩
        rw [List.pairwise_cons]
        refine ⟨fun q hq => ?_, h2⟩
        rcases List.mem_cons.1 hq with rfl | hq
        · exact h1
        · exact h1.trans ((List.pairwise_cons.1 h2).1 q hq)
      · intro h
        rw [List.pairwise_cons] at h
        exact ⟨h.1 y (by simp), h.2⟩

end Go.Proofs.Ytimhdegdmdilaaa
/- Lists that were handed in; few: a copy of at most forty pairs; own: pairs as the reference has them. -/
namespace Go.Proofs.Ytimhdegdmdilaaa
open Go.RowKit Go.Lib
set_option linter.unusedVariables false
set_option maxRecDepth 100000
set_option maxRecDepth 100000
set_option linter.unusedSimpArgs false
set_option linter.unnecessarySimpa false
/-- a slice of pairs that was handed in -/
def ArgP (w : World) (a : Option Addr) (len cap : Nat) (ps : List Pr) : Prop :=
  (a = none ∧ len = 0 ∧ cap = 0 ∧ ps = []) ∨
  ∃ x, a = some x ∧ ps.length = len ∧ len ≤ cap ∧ cap ≤ maxLen ∧ ∀ j u, (flat ps)[j]? = some u → w.cell? (x.add j) = some u
theorem ArgP.below {w w' : World} {a : Option Addr} {len cap : Nat} {ps : List Pr} (h : ArgP w a len cap ps) (hb : Below w.heap.size w w') : ArgP w' a len cap ps := by
  rcases h with h | ⟨x, rfl, h1, h2, h3, h4⟩
  · exact .inl h
  · refine .inr ⟨x, rfl, h1, h2, h3, fun j u hj => ?_⟩
    have := h4 j u hj
    exact (hb.cell (World.block_lt_of_cell? w _ this)).trans this
theorem flat_take (xs : List Pr) (k : Nat) : flat (xs.take k) = (flat xs).take (k * 2) := by
  induction xs generalizing k with
  | nil => simp [flat]
  | cons x xs ih =>
    cases k with
    | zero => simp [flat]
    | succ k =>
      have := ih k
      rw [List.take_succ_cons, show (k + 1) * 2 = k * 2 + 2 by omega]
      simp only [flat, List.flatMap_cons] at *
      rw [this]
      rfl
/-- what a copy of at most forty of them is -/
def FewPost (ps : List Pr) (w : World) (e : Ending) (w' : World) : Prop :=
  ∃ g c, e = .returned (.slice (some ⟨g, 0, none⟩) (ps.take 40).length c) ∧ Own w.heap.size w' (.slice (some ⟨g, 0, none⟩) (ps.take 40).length c) (ps.take 40) ∧ Below w.heap.size w w'
/-- a row of pairs of the reference that the call owns -/
def OwnR (base : Nat) (w : World) (v : Value) (xs : List Pr) : Prop := w.ownsRow base 33 2 v xs.length (flat xs)
theorem OwnR.rd {base : Nat} {w : World} {v : Value} {xs : List Pr} (h : OwnR base w v xs) : ∃ A c, v = .slice A xs.length c ∧ Rd w A xs := by
  rcases h.2 with ⟨h1, h0⟩ | ⟨g, cap, cur, rfl, hg, _⟩
  · exact ⟨none, 0, by rw [h1, h0], fun j p hj => by rw [List.length_eq_zero_iff.1 h0] at hj; simp at hj⟩
  · refine ⟨_, cap, rfl, fun j p hj => ⟨g, 0, rfl, ?_⟩⟩
    have hf := flat_get xs j p hj
    obtain ⟨hl, _⟩ := List.getElem?_eq_some_iff.1 hj
    have h' : w.ownsRow base 33 2 (.slice (some ⟨g, 0, none⟩) xs.length cap) xs.length (flat xs) := h
    rw [Nat.zero_add, h'.cellAt (j * 2) (by omega), h'.cellAt (j * 2 + 1) (by omega)]
    exact hf
theorem info40 : (Try.prog.info? 33).map (fun i => (i.zero, i.size, i.bytes)) = some (some (.agg #[.string ByteArray.empty, .string ByteArray.empty]), 2, 32) := by kernel_rfl
end Go.Proofs.Ytimhdegdmdilaaa
/- The reference's Rises and Drop. -/
namespace Go.Proofs.Ytimhdegdmdilaaa
open Go.RowKit Go.Lib
set_option linter.unusedVariables false
set_option maxRecDepth 100000
set_option maxRecDepth 100000
set_option linter.unusedSimpArgs false
set_option linter.unnecessarySimpa false
/-- no key is longer than a string can be -/
def Sized (xs : List Pr) : Prop := ∀ j, (pat xs j).1.size ≤ maxLen
/-- those with another key -/
def dropK (xs : List Pr) (k : ByteArray) : List Pr := xs.filter fun p => !(p.1.toList == k.toList)
theorem drop_take (xs : List Pr) (k : ByteArray) (j : Nat) (h : j < xs.length) : dropK (xs.take (j + 1)) k = dropK (xs.take j) k ++ (if ((pat xs j).1.toList == k.toList) = true then [] else [pat xs j]) := by
  have et : xs.take (j + 1) = xs.take j ++ [pat xs j] := by
    rw [List.take_succ_eq_append_getElem h]
    simp [pat, h]
  unfold dropK
  rw [et, List.filter_append]
  congr 1
  by_cases hk : ((pat xs j).1.toList == k.toList) = true
  · rw [if_pos hk]; simp [hk]
  · rw [if_neg hk]; simp at hk; simp [hk]
theorem drop_le (xs : List Pr) (k : ByteArray) (j : Nat) : (dropK (xs.take j) k).length ≤ j := Nat.le_trans (List.length_filter_le _ _) (by rw [List.length_take]; omega)
set_option maxRecDepth 100000 in
set_option maxHeartbeats 4000000 in
theorem refDrop_any (A : Option Addr) (c : Nat) (xs : List Pr) (k : ByteArray) (w : World) (hR : Rd w A xs) (hn : xs.length ≤ 1000) :
    Calls Try.prog 88 #[.slice A xs.length c, .string k] w fun e w' => ∃ v, e = .returned v ∧ OwnR w.heap.size w' v (dropK xs k) ∧ Below w.heap.size w w' := by
  obtain ⟨i0, hi, hz0, hz1, hz2⟩ := info_parts info40
  obtain ⟨n, hxs⟩ : ∃ n, n = xs.length := ⟨_, rfl⟩
  rw [← hxs] at hn ⊢
  have HX := Lib.hid hxs
  have HR := Lib.hid hR
  clear hxs hR
  go_enter Try.func88, Try.ntmps88
  go_wp2_with fail
  go_loopw [5, 10] (fun v i wr => ∃ j : Nat, j ≤ n ∧ i = .int .i64 j ∧ OwnR w.heap.size wr v (dropK (xs.take j) k) ∧ Below w.heap.size w wr) (fun v i wr => n - (intOf i).toNat)
  case atStart => exact ⟨0, by omega, rfl, World.ownsRow_nil _ _ _ _, Below.refl _ _⟩
  case round =>
    obtain ⟨j, hj, rfl, hO, hB⟩ := hrel
    by_cases hlt : j < n
    · obtain ⟨g, off, rfl, c0, c1⟩ := (HR.out.below hB).at j (by rw [← HX.out]; exact hlt)
      have hrow : wr.ownsRow w.heap.size 33 2 u5 (dropK (xs.take j) k).length (flat (dropK (xs.take j) k)) := hO
      have hdl := drop_le xs k j
      have hdt := Lib.hid (drop_take xs k j (by rw [← HX.out]; exact hlt))
      have hb2 : Below w.heap.size w (wr.alloc (.cells #[.string (pat xs j).1, .string (pat xs j).2] 33)) := hB.alloc hB.size _
      have hrow2 := hrow.alloc (.cells #[.string (pat xs j).1, .string (pat xs j).2] 33)
      have hbx := Blk.new wr 33 #[.string (pat xs j).1, .string (pat xs j).2]
      clear hO hB
      go_upto_region 5 with (fail)
      generalize wr.alloc (.cells #[.string (pat xs j).1, .string (pat xs j).2] 33) = W at *
      generalize wr.heap.size = Bx at *
      have b0 : W.cell? ⟨Bx, 0, none⟩ = some (.string (pat xs j).1) := hbx.cell 0
      have b1 : W.cell? ⟨Bx, 1, none⟩ = some (.string (pat xs j).2) := hbx.cell 1
      clear hbx c0 c1 hrow
      generalize dropK (xs.take j) k = R at *
      cases hq : ((pat xs j).1.toList == k.toList) with
      | true =>
        go_wp2_with fail
        refine ⟨⟨j + 1, by omega, by go_num, ?_, hb2⟩, by simp [intOf]; omega⟩
        rw [hdt.out, if_pos hq, List.append_nil]
        exact hrow2
      | false =>
        go_wp2_with (at_builtin; refine wpList_append_own _ rfl _ _ 25 rfl w.heap.size 33 i0 _ 2 32 Try.underlying25 hi hz0 hz1 hz2 rfl (by decide) _ _ _ rfl (hrow2.alloc _) ⟨W.heap.size, 0, none⟩ 1 1 [.string (pat xs j).1, .string (pat xs j).2] rfl rfl (cell_two_new _ _ _ _) (flat_cell (pat xs j)) (by unfold maxLen; omega) (by omega) (by have := hb2.size; simp; omega) ?_; intro v' wa hown' hgrow hnil)
        have hB5 : Below w.heap.size w wa := (hb2.alloc hb2.size _).grown hgrow (by have := hb2.size; simp; omega) (own_ge hrow2)
        refine ⟨⟨j + 1, by omega, by go_num, ?_, hB5⟩, by simp [intOf]; omega⟩
        rw [hdt.out, if_neg (by rw [hq]; simp)]
        unfold OwnR
        rw [flat_snoc, List.length_append]
        exact hown'
    · go_wp2_with fail
      go_ret
      rw [List.take_of_length_le (by rw [← HX.out]; omega)] at hO
      exact ⟨_, rfl, hO, hB⟩
end Go.Proofs.Ytimhdegdmdilaaa
/- One pair put into the sorted list of a list: it is the sorted list of the list with that pair behind it. -/
namespace Go.Proofs.Ytimhdegdmdilaaa
open Go.RowKit Go.Lib
set_option linter.unusedVariables false
set_option maxRecDepth 100000
set_option maxRecDepth 100000
set_option linter.unusedSimpArgs false
set_option linter.unnecessarySimpa false
/-- a pair, ahead of the first greater key -/
def insK (p : Pr) : List Pr → List Pr
  | [] => [p]
  | q :: r => if ltB p.1 q.1 = true then p :: q :: r else q :: insK p r
/-- with a pair -/
def putK (xs : List Pr) (p : Pr) : List Pr := insK p (dropK xs p.1)
theorem ins_mem (p x : Pr) (D : List Pr) : x ∈ insK p D ↔ x = p ∨ x ∈ D := by
  induction D with
  | nil => simp [insK]
  | cons q r ih =>
    unfold insK
    split
    · simp
    · simp only [List.mem_cons, ih]
      constructor
      · rintro (h | h | h)
        · exact .inr (.inl h)
        · exact .inl h
        · exact .inr (.inr h)
      · rintro (h | h | h)
        · exact .inr (.inl h)
        · exact .inl h
        · exact .inr (.inr h)
theorem ltB_iff (a b : ByteArray) : ltB a b = true ↔ Lt a b := by unfold ltB Lt; simp
theorem ins_rises (p : Pr) (D : List Pr) (h : RisesL D) (hk : ∀ x ∈ D, x.1 ≠ p.1) : RisesL (insK p D) := by
  induction D with
  | nil => simp [insK, RisesL]
  | cons q r ih =>
    have h' := List.pairwise_cons.1 h
    unfold insK
    split
    · rename_i hl
      have hpq := (ltB_iff _ _).1 hl
      unfold RisesL
      rw [List.pairwise_cons]
      refine ⟨fun x hx => ?_, h⟩
      rcases List.mem_cons.1 hx with rfl | hx
      · exact hpq
      · exact hpq.trans (h'.1 x hx)
    · rename_i hl
      have hqp : Lt q.1 p.1 := by
        have h1 : Le q.1 p.1 := not_lt_le (fun hc => hl ((ltB_iff _ _).2 hc))
        rcases h1.lt_or_eq with h1 | h1
        · exact h1
        · exact absurd h1 (hk q (by simp))
      unfold RisesL
      rw [List.pairwise_cons]
      refine ⟨fun x hx => ?_, ih h'.2 (fun x hx => hk x (List.mem_cons_of_mem _ hx))⟩
      rcases (ins_mem p x r).1 hx with rfl | hx
      · exact hqp
      · exact h'.1 x hx
theorem drop_mem (xs : List Pr) (k : ByteArray) (x : Pr) : x ∈ dropK xs k ↔ x ∈ xs ∧ x.1 ≠ k := by
  unfold dropK
  rw [List.mem_filter]
  simp only [Bool.not_eq_true', beq_eq_false_iff_ne, ne_eq]
  constructor
  · rintro ⟨h1, h2⟩; exact ⟨h1, fun e => h2 (by rw [e])⟩
  · rintro ⟨h1, h2⟩; exact ⟨h1, fun e => h2 (bytes_ext (by rw [ByteArray.toList_eq, ByteArray.toList_eq] at e; exact e))⟩
theorem drop_rises (xs : List Pr) (k : ByteArray) (h : RisesL xs) : RisesL (dropK xs k) := List.Pairwise.filter _ h
theorem norm_put {ys R : List Pr} (p : Pr) (h : IsNorm ys R) : IsNorm (ys ++ [p]) (putK R p) := by
  constructor
  · exact ins_rises p _ (drop_rises R p.1 h.rises) (fun x hx => ((drop_mem R p.1 x).1 hx).2)
  · intro x
    unfold putK
    rw [ins_mem, drop_mem, h.mem x]
    have e : withKey (ys ++ [p]) x.1 = withKey ys x.1 ++ (if p.1 = x.1 then [p] else []) := by
      unfold withKey
      rw [List.filter_append]
      by_cases hp : p.1 = x.1 <;> simp [hp]
    rw [e]
    by_cases hp : p.1 = x.1
    · rw [if_pos hp, List.getLast?_append]
      simp only [List.getLast?_singleton, Option.some_or, Option.some.injEq]
      constructor
      · rintro (h1 | ⟨_, h2⟩)
        · exact h1.symm
        · exact absurd hp.symm h2
      · intro h1; exact .inl h1.symm
    · rw [if_neg hp, List.append_nil]
      constructor
      · rintro (h1 | ⟨h1, _⟩)
        · subst h1; exact absurd rfl hp
        · exact h1
      · intro h1; exact .inr ⟨h1, fun e => hp e.symm⟩
theorem norm_nil : IsNorm [] [] := ⟨List.Pairwise.nil, fun p => by simp [withKey]⟩
end Go.Proofs.Ytimhdegdmdilaaa
/- The reference's Put. -/
namespace Go.Proofs.Ytimhdegdmdilaaa
open Go.RowKit Go.Lib
set_option linter.unusedVariables false
set_option maxRecDepth 100000
set_option maxRecDepth 100000
set_option linter.unusedSimpArgs false
set_option linter.unnecessarySimpa false
theorem insK_at (p : Pr) (D : List Pr) (j : Nat) (h : j < D.length) : insK p (D.drop j) = if ltB p.1 (pat D j).1 = true then p :: pat D j :: D.drop (j + 1) else pat D j :: insK p (D.drop (j + 1)) := by
  have e : D.drop j = pat D j :: D.drop (j + 1) := by
    rw [List.drop_eq_getElem_cons h]; simp [pat, h]
  rw [e]; rfl
theorem insK_end (p : Pr) (D : List Pr) (j : Nat) (h : D.length ≤ j) : insK p (D.drop j) = [p] := by
  rw [List.drop_of_length_le h]; rfl
theorem drop_at (D : List Pr) (j : Nat) (h : j < D.length) : D.drop j = pat D j :: D.drop (j + 1) := by
  rw [List.drop_eq_getElem_cons h]; simp [pat, h]
/-- what is in out when j of D have come by -/
def OutP (p : Pr) (D : List Pr) (j : Nat) (b : Bool) (X : List Pr) : Prop :=
  X ++ (if b = true then D.drop j else insK p (D.drop j)) = insK p D ∧ X.length ≤ j + b.toNat
theorem OutP.start (p : Pr) (D : List Pr) : OutP p D 0 false [] := ⟨by simp, by simp⟩
theorem OutP.in {p : Pr} {D : List Pr} {j : Nat} {X : List Pr} (h : OutP p D j false X) (hj : j < D.length) (hl : ltB p.1 (pat D j).1 = true) : OutP p D (j + 1) true (X ++ [p] ++ [pat D j]) := by
  obtain ⟨h, hX⟩ := h
  simp at hX
  rw [if_neg (by simp), insK_at p D j hj, if_pos hl] at h
  exact ⟨by rw [← h]; simp, by simp; omega⟩
theorem OutP.on {p : Pr} {D : List Pr} {j : Nat} {X : List Pr} (h : OutP p D j false X) (hj : j < D.length) (hl : ltB p.1 (pat D j).1 = false) : OutP p D (j + 1) false (X ++ [pat D j]) := by
  obtain ⟨h, hX⟩ := h
  simp at hX
  rw [if_neg (by simp), insK_at p D j hj, if_neg (by rw [hl]; simp)] at h
  exact ⟨by rw [← h]; simp, by simp; omega⟩
theorem OutP.next {p : Pr} {D : List Pr} {j : Nat} {X : List Pr} (h : OutP p D j true X) (hj : j < D.length) : OutP p D (j + 1) true (X ++ [pat D j]) := by
  obtain ⟨h, hX⟩ := h
  simp at hX
  rw [if_pos rfl, drop_at D j hj] at h
  exact ⟨by rw [← h]; simp, by simp; omega⟩
theorem OutP.done {p : Pr} {D : List Pr} {j : Nat} {X : List Pr} (h : OutP p D j true X) (hj : D.length ≤ j) : X = insK p D := by
  rw [← h.1, if_pos rfl, List.drop_of_length_le hj]; simp
theorem OutP.last {p : Pr} {D : List Pr} {j : Nat} {X : List Pr} (h : OutP p D j false X) (hj : D.length ≤ j) : X ++ [p] = insK p D := by
  rw [← h.1, if_neg (by simp), insK_end p D j hj]
theorem sized_drop {xs : List Pr} (h : Sized xs) (k : ByteArray) : Sized (dropK xs k) := by
  intro j
  by_cases hj : j < (dropK xs k).length
  · have hm : (pat (dropK xs k) j) ∈ dropK xs k := by unfold pat; rw [List.getElem?_eq_getElem hj]; exact List.getElem_mem _
    have := (List.mem_filter.1 hm).1
    obtain ⟨i, hi, e⟩ := List.getElem_of_mem this
    have := h i
    unfold pat at this
    rw [List.getElem?_eq_getElem hi] at this
    simpa [e] using this
  · unfold pat
    rw [List.getElem?_eq_none (by omega)]
    simp [maxLen]
theorem OwnR.base {b b' : Nat} {w : World} {v : Value} {xs : List Pr} (h : OwnR b w v xs) (hb : b' ≤ b) : OwnR b' w v xs := by
  refine ⟨h.1, ?_⟩
  rcases h.2 with h1 | ⟨g, cap, cur, h1, h2, h3⟩
  · exact .inl h1
  · exact .inr ⟨g, cap, cur, h1, Nat.le_trans hb h2, h3⟩
theorem OwnR.snoc {base : Nat} {w : World} {v : Value} {R : List Pr} {p : Pr} (h : w.ownsRow base 33 2 v (R.length + 1) (flat R ++ [.string p.1, .string p.2])) : OwnR base w v (R ++ [p]) := by
  unfold OwnR
  rw [flat_snoc, List.length_append]
  exact h
set_option maxRecDepth 100000 in
set_option maxHeartbeats 4000000 in
theorem refPut_any (A : Option Addr) (c : Nat) (xs : List Pr) (p : Pr) (w : World) (hR : Rd w A xs) (hn : xs.length ≤ 900) (hz : Sized xs) (hp : p.1.size ≤ maxLen) :
    Calls Try.prog 57 #[.slice A xs.length c, p.v] w fun e w' => ∃ v, e = .returned v ∧ OwnR w.heap.size w' v (putK xs p) ∧ Below w.heap.size w w' := by
  obtain ⟨i0, hi, hz0, hz1, hz2⟩ := info_parts info40
  have hB0 : Below w.heap.size w (w.alloc (.cells #[.string p.1, .string p.2] 33)) := (Below.refl _ w).alloc (Nat.le_refl _) _
  have hR0 := hR.below hB0
  have hbx := Blk.new w 33 #[.string p.1, .string p.2]
  have hlt0 : w.heap.size < (w.alloc (.cells #[.string p.1, .string p.2] 33)).heap.size := by simp
  have hzD := sized_drop hz p.1
  have hDl : (dropK xs p.1).length ≤ 900 := Nat.le_trans (List.length_filter_le _ _) hn
  have hgoal : putK xs p = insK p (dropK xs p.1) := rfl
  rw [hgoal]
  obtain ⟨D, hD⟩ : ∃ D, D = dropK xs p.1 := ⟨_, rfl⟩
  rw [← hD] at hzD hDl ⊢
  have HDK := Lib.hid hD
  clear hgoal hD
  unfold Pr.v
  go_enter Try.func57, Try.ntmps57
  go_upto_region 3 with (fail)
  generalize w.alloc (.cells #[.string p.1, .string p.2] 33) = W0 at *
  have b0 : W0.cell? ⟨w.heap.size, 0, none⟩ = some (.string p.1) := hbx.cell 0
  have b1 : W0.cell? ⟨w.heap.size, 1, none⟩ = some (.string p.2) := hbx.cell 1
  go_wp2_with fail
  refine (refDrop_any A c xs p.1 W0 hR0 (by omega)).mono ?_
  rintro e w1 ⟨v1, rfl, hO1, hB1⟩
  rw [← HDK.out] at hO1
  obtain ⟨A1, c1, rfl, hR1⟩ := hO1.rd
  have hW1 := hB0.trans (hB1.mono hB0.size)
  have b0' : w1.cell? ⟨w.heap.size, 0, none⟩ = some (.string p.1) := (hB1.cell hlt0).trans b0
  have b1' : w1.cell? ⟨w.heap.size, 1, none⟩ = some (.string p.2) := (hB1.cell hlt0).trans b1
  have hlt1 : w.heap.size < w1.heap.size := Nat.lt_of_lt_of_le hlt0 hB1.size
  clear hO1 hbx hB0 hB1 b0 b1 hR0 hR hn hz
  obtain ⟨m, hm⟩ : ∃ m, m = D.length := ⟨_, rfl⟩
  rw [← hm] at hDl ⊢
  have HD := Lib.hid hm
  have HR := Lib.hid hR1
  have HZ := Lib.hid hzD
  have HW1 := Lib.hid hW1
  clear hm hR1 hzD hW1
  go_wp2_with fail
  go_loopw [5, 6, 14] (fun v pl i wr => ∃ (j : Nat) (b : Bool) (X : List Pr), j ≤ m ∧ i = .int .i64 j ∧ pl = .bool b ∧ OutP p D j b X ∧ OwnR w1.heap.size wr v X ∧ Below w1.heap.size w1 wr) (fun v pl i wr => m - (intOf i).toNat)
  case atStart => exact ⟨0, false, [], by omega, rfl, rfl, OutP.start p D, World.ownsRow_nil _ _ _ _, Below.refl _ _⟩
  case round =>
    obtain ⟨j, b, X, hj, rfl, rfl, hX, hO, hB⟩ := hrel
    have p0 : wr.cell? ⟨w.heap.size, 0, none⟩ = some (.string p.1) := (hB.cell hlt1).trans b0'
    have p1 : wr.cell? ⟨w.heap.size, 1, none⟩ = some (.string p.2) := (hB.cell hlt1).trans b1'
    have hXl := hX.2
    have hXl2 : X.length ≤ 1000 := by have := Bool.toNat_le b; omega
    have HX := Lib.hid hX
    clear hX hXl
    by_cases hlt : j < m
    · obtain ⟨g, off, rfl, c0, c1'⟩ := (HR.out.below hB).at j (by rw [← HD.out]; exact hlt)
      have hrow : wr.ownsRow w1.heap.size 33 2 u5 X.length (flat X) := hO
      have hb2 : Below w1.heap.size w1 (wr.alloc (.cells #[.string (pat D j).1, .string (pat D j).2] 33)) := hB.alloc hB.size _
      have hrow2 := hrow.alloc (.cells #[.string (pat D j).1, .string (pat D j).2] 33)
      have hbx := Blk.new wr 33 #[.string (pat D j).1, .string (pat D j).2]
      have hlB : wr.heap.size < (wr.alloc (.cells #[.string (pat D j).1, .string (pat D j).2] 33)).heap.size := by simp
      have p0' : (wr.alloc (.cells #[.string (pat D j).1, .string (pat D j).2] 33)).cell? ⟨w.heap.size, 0, none⟩ = some (.string p.1) := (hb2.cell hlt1).trans b0'
      have p1' : (wr.alloc (.cells #[.string (pat D j).1, .string (pat D j).2] 33)).cell? ⟨w.heap.size, 1, none⟩ = some (.string p.2) := (hb2.cell hlt1).trans b1'
      have hne : some wr.heap.size ≠ u5.ownBlock := fun e => by have := (World.ownsRow.lt hrow _ e.symm).2; omega
      clear hO hB p0 p1 b0' b1'
      go_upto_region 6 with (fail)
      generalize wr.alloc (.cells #[.string (pat D j).1, .string (pat D j).2] 33) = W at *
      generalize wr.heap.size = Bx at *
      have q0 : W.cell? ⟨Bx, 0, none⟩ = some (.string (pat D j).1) := hbx.cell 0
      have q1 : W.cell? ⟨Bx, 1, none⟩ = some (.string (pat D j).2) := hbx.cell 1
      clear hbx c0 c1' hrow
      have hjD : j < D.length := by rw [← HD.out]; exact hlt
      cases b with
      | true =>
        have HN := Lib.hid (HX.out.next hjD)
        go_wp2_with (at_builtin; refine wpList_append_own _ rfl _ _ 25 rfl w1.heap.size 33 i0 _ 2 32 Try.underlying25 hi hz0 hz1 hz2 rfl (by decide) _ _ _ rfl (hrow2.alloc _) ⟨W.heap.size, 0, none⟩ 1 1 [.string (pat D j).1, .string (pat D j).2] rfl rfl (cell_two_new _ _ _ _) (flat_cell (pat D j)) (by unfold maxLen; omega) (by omega) (by have := hb2.size; simp; omega) ?_; intro v' wa hown' hgrow hnil)
        have hB5 : Below w1.heap.size w1 wa := (hb2.alloc hb2.size _).grown hgrow (by have := hb2.size; simp; omega) (own_ge hrow2)
        exact ⟨⟨j + 1, true, X ++ [pat D j], by omega, by go_num, rfl, HN.out, OwnR.snoc hown', hB5⟩, by simp [intOf]; omega⟩
      | false =>
        go_wp2_with fail
        refine (less_any p.1 (pat D j).1 W hp (HZ.out j)).mono ?_
        rintro e w' ⟨rfl, nq, rfl⟩
        have hrow3 : (W.drewN nq).ownsRow w1.heap.size 33 2 u5 X.length (flat X) := hrow2
        have hb3 : Below w1.heap.size w1 (W.drewN nq) := ⟨hb2.os, hb2.tape, hb2.output, hb2.size, hb2.block⟩
        have p03 : (W.drewN nq).cell? ⟨w.heap.size, 0, none⟩ = some (.string p.1) := p0'
        have p13 : (W.drewN nq).cell? ⟨w.heap.size, 1, none⟩ = some (.string p.2) := p1'
        have q03 : (W.drewN nq).cell? ⟨Bx, 0, none⟩ = some (.string (pat D j).1) := q0
        have q13 : (W.drewN nq).cell? ⟨Bx, 1, none⟩ = some (.string (pat D j).2) := q1
        have hlB3 : Bx < (W.drewN nq).heap.size := hlB
        clear hrow2 hb2 p0' p1' q0 q1 hlB
        generalize W.drewN nq = W2 at *
        cases hv : ltB p.1 (pat D j).1 with
        | true =>
          have HN := Lib.hid (HX.out.in hjD hv)
          have hA2 : Below W2.heap.size W2 (W2.alloc (.cells #[.string p.1, .string p.2] 33)) := (Below.refl _ W2).alloc (Nat.le_refl _) _
          clear hv
          go_upto_region 8 with (at_builtin; refine wpList_append_own _ rfl _ _ 25 rfl w1.heap.size 33 i0 _ 2 32 Try.underlying25 hi hz0 hz1 hz2 rfl (by decide) _ _ _ rfl (hrow3.alloc _) ⟨W2.heap.size, 0, none⟩ 1 1 [.string p.1, .string p.2] rfl rfl (cell_two_new _ _ _ _) (flat_cell p) (by unfold maxLen; omega) (by omega) (by have := hb3.size; simp; omega) ?_; intro v' wa hown' hgrow hnil; have q04 := hgrow.cell ((hA2.cell hlB3).trans q03) hne; have q14 := hgrow.cell ((hA2.cell hlB3).trans q13) hne)
          have hB5 : Below w1.heap.size w1 wa := (hb3.alloc hb3.size _).grown hgrow (by have := hb3.size; simp; omega) (own_ge hrow3)
          have hrow4 : wa.ownsRow w1.heap.size 33 2 v' (X.length + 1) (flat X ++ [.string p.1, .string p.2]) := hown'
          clear hgrow hnil hown' hrow3 hb3 p03 p13 q03 q13
          go_wp2_with (at_builtin; refine wpList_append_own _ rfl _ _ 25 rfl w1.heap.size 33 i0 _ 2 32 Try.underlying25 hi hz0 hz1 hz2 rfl (by decide) _ _ _ rfl (hrow4.alloc _) ⟨wa.heap.size, 0, none⟩ 1 1 [.string (pat D j).1, .string (pat D j).2] rfl rfl (cell_two_new _ _ _ _) (flat_cell (pat D j)) (by unfold maxLen; omega) (by omega) (by have := hB5.size; simp; omega) ?_; intro v2 wb hown2 hgrow2 hnil2)
          have hB6 : Below w1.heap.size w1 wb := (hB5.alloc hB5.size _).grown hgrow2 (by have := hB5.size; simp; omega) (own_ge hrow4)
          refine ⟨⟨j + 1, true, X ++ [p] ++ [pat D j], by omega, by go_num, rfl, HN.out, ?_, hB6⟩, by simp [intOf]; omega⟩
          refine OwnR.snoc ?_
          rw [flat_snoc, List.length_append]
          exact hown2
        | false =>
          have HN := Lib.hid (HX.out.on hjD hv)
          clear hv
          go_wp2_with (at_builtin; refine wpList_append_own _ rfl _ _ 25 rfl w1.heap.size 33 i0 _ 2 32 Try.underlying25 hi hz0 hz1 hz2 rfl (by decide) _ _ _ rfl (hrow3.alloc _) ⟨W2.heap.size, 0, none⟩ 1 1 [.string (pat D j).1, .string (pat D j).2] rfl rfl (cell_two_new _ _ _ _) (flat_cell (pat D j)) (by unfold maxLen; omega) (by omega) (by have := hb3.size; simp; omega) ?_; intro v' wa hown' hgrow hnil)
          have hB5 : Below w1.heap.size w1 wa := (hb3.alloc hb3.size _).grown hgrow (by have := hb3.size; simp; omega) (own_ge hrow3)
          exact ⟨⟨j + 1, false, X ++ [pat D j], by omega, by go_num, rfl, HN.out, OwnR.snoc hown', hB5⟩, by simp [intOf]; omega⟩
    · have hjD : D.length ≤ j := by rw [← HD.out]; omega
      have hrow : wr.ownsRow w1.heap.size 33 2 u5 X.length (flat X) := hO
      have hfin : ∀ (v : Value) (wa : World), OwnR w1.heap.size wa v (insK p D) → Below w1.heap.size w1 wa → OwnR w.heap.size wa v (insK p D) ∧ Below w.heap.size w wa := fun v wa h1 h2 => ⟨h1.base HW1.out.size, HW1.out.trans (h2.mono HW1.out.size)⟩
      have HF := Lib.hid hfin
      clear hO hfin
      cases b with
      | true =>
        have HN := Lib.hid (HX.out.done hjD)
        go_wp2_with fail
        go_ret
        have e1 := HN.out
        subst e1
        obtain ⟨h1, h2⟩ := HF.out _ _ hrow hB
        exact ⟨_, rfl, h1, h2⟩
      | false =>
        have HN := Lib.hid (HX.out.last hjD)
        go_wp2_with (at_builtin; refine wpList_append_own _ rfl _ _ 25 rfl w1.heap.size 33 i0 _ 2 32 Try.underlying25 hi hz0 hz1 hz2 rfl (by decide) _ _ _ rfl (hrow.alloc _) ⟨wr.heap.size, 0, none⟩ 1 1 [.string p.1, .string p.2] rfl rfl (cell_two_new _ _ _ _) (flat_cell p) (by unfold maxLen; omega) (by omega) (by have := hB.size; simp; omega) ?_; intro v' wa hown' hgrow hnil)
        have hB5 : Below w1.heap.size w1 wa := (hB.alloc hB.size _).grown hgrow (by have := hB.size; simp; omega) (own_ge hrow)
        go_ret
        have hX' := OwnR.snoc hown'
        rw [HN.out] at hX'
        obtain ⟨h1, h2⟩ := HF.out _ _ hX' hB5
        exact ⟨_, rfl, h1, h2⟩
end Go.Proofs.Ytimhdegdmdilaaa
/- The members of a canonical tree, in its order: the sorted list. -/
namespace Go.Proofs.Ytimhdegdmdilaaa
open Go.Lib
set_option linter.unusedVariables false
set_option maxRecDepth 100000
set_option linter.unusedSimpArgs false
set_option linter.unnecessarySimpa false
set_option maxRecDepth 100000
def toPr (x : Ent) : Pr := (⟨x.1.toArray⟩, x.2)
/-- a tree's pairs -/
def prs (t : RX) : List Pr := (body t).map toPr
theorem toPr_key (x : Ent) : (toPr x).1.data.toList = x.1 := by simp [toPr]
theorem toPr_inj {x y : Ent} (h : toPr x = toPr y) : x = y := by
  have h1 := congrArg (fun p : Pr => p.1.data.toList) h
  have h2 := congrArg (fun p : Pr => p.2) h
  exact Prod.ext (by simpa [toPr] using h1) h2
/-- keys as a pair has them -/
def key (p : Pr) : List UInt8 := p.1.data.toList
theorem prs_mem {t : RX} {p : Pr} : p ∈ prs t ↔ (key p, p.2) ∈ body t := by
  unfold prs
  rw [List.mem_map]
  constructor
  · rintro ⟨x, hx, rfl⟩
    have : (key (toPr x), (toPr x).2) = x := Prod.ext (by simp [key, toPr]) rfl
    rw [this]; exact hx
  · intro h
    refine ⟨_, h, ?_⟩
    exact Prod.ext (bytes_ext (by simp [toPr, key])) rfl
theorem cb_first {a b : UInt8} {r s : List UInt8} (h : a.toNat < b.toNat) : compareBytes (a :: r) (b :: s) < 0 := by
  have : a < b := by rw [UInt8.lt_iff_toNat_lt]; exact h
  simp [compareBytes, this]
theorem cb_nil {a : UInt8} {r : List UInt8} : compareBytes [] (a :: r) < 0 := by simp [compareBytes]
theorem cb_pre (p u v : List UInt8) : compareBytes (p ++ u) (p ++ v) = compareBytes u v := by
  induction p with
  | nil => rfl
  | cons x p ih =>
    have : ¬ x < x := UInt8.lt_irrefl x
    simp [compareBytes, this, ih]
theorem bodyL_rises : ∀ ks : List RX, (∀ k ∈ ks, (body k).Pairwise fun x y => compareBytes x.1 y.1 < 0) → (∀ k ∈ ks, Kd k) → ks.Pairwise (fun a b => fst? a < fst? b) → (bodyL ks).Pairwise fun x y => compareBytes x.1 y.1 < 0
  | [], _, _, _ => by simp [bodyL]
  | k :: ks, h1, h2, h3 => by
    rw [List.pairwise_cons] at h3
    rw [bodyL, List.pairwise_append]
    refine ⟨?_, bodyL_rises ks (fun c hc => h1 c (by simp [hc])) (fun c hc => h2 c (by simp [hc])) h3.2, fun x hx y hy => ?_⟩
    · rw [List.pairwise_map]
      exact (h1 k (by simp)).imp fun h => by rw [cb_pre]; exact h
    · obtain ⟨x', hx', rfl⟩ := List.mem_map.1 hx
      obtain ⟨c, hc, y', hy', e⟩ := bodyL_mem.1 hy
      have hlt := h3.1 c hc
      cases hl : k.lab with
      | nil => exact absurd hl (h2 k (by simp)).1
      | cons a r =>
        cases hl' : c.lab with
        | nil => exact absurd hl' (h2 c (by simp [hc])).1
        | cons b s =>
          rw [fst_cons hl, fst_cons hl'] at hlt
          rw [e, hl']
          exact cb_first (by omega)
def vals : Option ByteArray → List Ent | none => [] | some w => [([], w)]
theorem body_node (l : List UInt8) (v : Option ByteArray) (ks : List RX) : body (.node l v ks) = vals v ++ bodyL ks := by rw [body.eq_def]; cases v <;> rfl
theorem body_rises : ∀ t : RX, Can t → (body t).Pairwise fun x y => compareBytes x.1 y.1 < 0 := by
  intro t
  induction t using RX.ind with
  | h t ih =>
    intro hc
    have hL := bodyL_rises t.kids (fun k hk => ih k hk (hc.kids k hk)) hc.kd hc.rises
    cases t with
    | node l v ks =>
      rw [body_node, List.pairwise_append]
      refine ⟨by cases v <;> simp [vals], hL, fun x hx y hy => ?_⟩
      obtain ⟨c, hk, y', hy', e⟩ := bodyL_mem.1 hy
      cases v with
      | none => simp [vals] at hx
      | some w =>
        simp [vals] at hx
        rw [hx, e]
        cases hl : c.lab with
        | nil => exact absurd hl (hc.kd c hk).1
        | cons b s => exact cb_nil
theorem prs_rises {t : RX} (h : Can t) : RisesL (prs t) := by
  unfold RisesL prs
  rw [List.pairwise_map]
  refine (body_rises t h).imp fun hxy => ?_
  unfold Lt cmpS
  rw [toPr_key, toPr_key]; exact hxy
/-- what Put leaves -/
theorem prs_put {t u : RX} {p : Pr} (ht : Can t) (hu : Can u) (h : InsX (key p) p.2 t u) : prs u = putK (prs t) p := by
  refine eq_of_rises (prs_rises hu) (ins_rises p _ (drop_rises _ _ (prs_rises ht)) fun x hx => ((drop_mem _ _ _).1 hx).2) fun q => ?_
  unfold putK
  rw [ins_mem, drop_mem, prs_mem, prs_mem, h]
  simp only [Prod.mk.injEq]
  refine or_congr ⟨fun h => Prod.ext (bytes_ext h.1) h.2, fun h => by rw [h]; exact ⟨rfl, rfl⟩⟩ (and_congr Iff.rfl ⟨fun h e => h (by unfold key; rw [e]), fun h e => h (bytes_ext e)⟩)
theorem prs_drop {t u : RX} {k : ByteArray} (ht : Can t) (hu : Can u) (h : DelX k.data.toList t u) : prs u = dropK (prs t) k := by
  refine eq_of_rises (prs_rises hu) (drop_rises _ _ (prs_rises ht)) fun q => ?_
  rw [drop_mem, prs_mem, prs_mem, h]
  exact and_congr Iff.rfl ⟨fun h e => h (by unfold key; rw [e]), fun h e => h (bytes_ext e)⟩
/-- members' keys are not long -/
def Shrt (n : Nat) (t : RX) : Prop := ∀ x ∈ body t, x.1.length ≤ n
theorem Shrt.kid {n : Nat} {t k : RX} (h : Shrt n t) (hk : k ∈ t.kids) : Shrt n k := fun x hx => by
  have := h (k.lab ++ x.1, x.2) (body_mem.2 (.inr ⟨k, hk, x.1, hx, rfl⟩))
  simp at this; omega
theorem Shrt.lab {n : Nat} {t k : RX} (h : Shrt n t) (hc : Can t) (hk : k ∈ t.kids) : k.lab.length ≤ n := by
  have hd := hc.kd k hk
  obtain ⟨x, hx⟩ := body_some k (hc.kids k hk) (by rcases hd.2 with h | h; exact .inl h; exact .inr (by omega))
  have := h (k.lab ++ x.1, x.2) (body_mem.2 (.inr ⟨k, hk, x.1, hx, rfl⟩))
  simp at this; omega
theorem Shrt.ins {n : Nat} {t u : RX} {r : List UInt8} {w : ByteArray} (h : Shrt n t) (hi : InsX r w t u) (hr : r.length ≤ n) : Shrt n u := fun x hx => by
  rcases (hi x).1 hx with h1 | h1
  · rw [h1]; exact hr
  · exact h x h1.1
theorem Shrt.del {n : Nat} {t u : RX} {r : List UInt8} (h : Shrt n t) (hi : DelX r t u) : Shrt n u := fun x hx => h x ((hi x).1 hx).1
theorem fst_le (t : RX) : fst? t ≤ 256 := by
  unfold fst?
  split
  · omega
  · have := UInt8.toNat_lt ‹UInt8›; omega
/-- there are not many kids -/
theorem rises_few : ∀ {ks : List RX} {n : Nat}, n ≤ 257 → ks.Pairwise (fun a b => fst? a < fst? b) → (∀ k ∈ ks, n ≤ fst? k) → ks.length + n ≤ 257
  | [], n, hn, _, h => by simpa using hn
  | k :: ks, n, hn, h1, h2 => by
    rw [List.pairwise_cons] at h1
    have := rises_few (n := fst? k + 1) (by have := fst_le k; omega) h1.2 fun c hc => h1.1 c hc
    have := h2 k (by simp)
    simp only [List.length_cons]; omega
theorem kids_few {t : RX} (h : Can t) : t.kids.length ≤ 257 := by
  have := rises_few (n := 0) (by omega) h.rises fun _ _ => Nat.zero_le _
  omega
end Go.Proofs.Ytimhdegdmdilaaa
/- Nodes of radix trees in memory. -/
namespace Go.Proofs.Ytimhdegdmdilaaa
open Go.RowKit Go.Lib
set_option linter.unusedVariables false
set_option maxRecDepth 100000
set_option linter.unusedSimpArgs false
set_option linter.unnecessarySimpa false
set_option maxRecDepth 100000
/-- a node's own cells -/
structure Nod (base : Nat) (w : World) (b : Nat) (t : RX) (kv : Value) (bs : List Nat) : Prop where
  blk : ∃ (o : Value) (lab val : ByteArray) (sh : Bool), Blk w b 132 #[o, .string lab, .string val, .bool t.val.isSome, kv, .bool sh] ∧ lab.data.toList = t.lab ∧ val = t.val.getD ByteArray.empty
  row : OwnK base w kv bs
  len : bs.length = t.kids.length
/-- a tree in memory, all its blocks P -/
inductive RadW (P : Nat → Prop) (w : World) : Nat → RX → Prop
  | mk {b : Nat} {t : RX} {kv : Value} {bs : List Nat} : Nod 0 w b t kv bs → P b → (∀ g, kv.ownBlock = some g → P g) → (∀ (i c : Nat) (k : RX), bs[i]? = some c → t.kids[i]? = some k → RadW P w c k) → RadW P w b t
/-- a tree whose node the call may change: it is from base on, and its kids are elsewhere -/
structure MineW (P : Nat → Prop) (base : Nat) (w : World) (b : Nat) (t : RX) : Prop where
  ex : ∃ (kv : Value) (bs : List Nat), Nod base w b t kv bs ∧ base ≤ b ∧ ∀ (i c : Nat) (k : RX), bs[i]? = some c → t.kids[i]? = some k → RadW (fun x => P x ∧ x ≠ b ∧ kv.ownBlock ≠ some x) w c k
section
variable {P R : Nat → Prop} {base : Nat} {w w' : World} {b : Nat} {t : RX} {kv : Value} {bs : List Nat}
theorem Nod.base_ (h : Nod base w b t kv bs) {c : Nat} (hc : c ≤ base) : Nod c w b t kv bs := ⟨h.blk, h.row.base hc, h.len⟩
theorem Nod.lt (h : Nod base w b t kv bs) : b < w.heap.size := by obtain ⟨o, lab, val, sh, hB, -⟩ := h.blk; exact hB.lt
theorem OwnK.lt {v : Value} {ks : List Nat} (h : OwnK base w v ks) {g : Nat} (hg : v.ownBlock = some g) : g < w.heap.size := by
  obtain ⟨cur, hc⟩ := own_cells h g hg
  exact (Array.getElem?_eq_some_iff.1 hc).1
theorem Nod.keep {X : List Nat} (h : Nod base w b t kv bs) (hk : Keep X w w') (hb : b ∉ X) (hr : ∀ g, kv.ownBlock = some g → g ∉ X) : Nod base w' b t kv bs := by
  obtain ⟨o, lab, val, sh, hB, h2⟩ := h.blk
  exact ⟨⟨o, lab, val, sh, hB.keep hk hb, h2⟩, own_keep h.row hk (fun x hx e => hr x e hx), h.len⟩
theorem RadW.ind_ {w : World} {Q : Nat → RX → Prop} (h : ∀ (b : Nat) (t : RX) (kv : Value) (bs : List Nat), Nod 0 w b t kv bs → P b → (∀ g, kv.ownBlock = some g → P g) → (∀ (i c : Nat) (k : RX), bs[i]? = some c → t.kids[i]? = some k → RadW P w c k) → (∀ (i c : Nat) (k : RX), bs[i]? = some c → t.kids[i]? = some k → Q c k) → Q b t) {b : Nat} {t : RX} (hr : RadW P w b t) : Q b t := by
  induction hr with
  | mk h1 h2 h3 h4 ih => exact h _ _ _ _ h1 h2 h3 h4 ih
theorem RadW.mono (h : RadW P w b t) (hR : ∀ x, P x → x < w.heap.size → R x) : RadW R w b t := by
  refine RadW.ind_ (Q := fun b t => RadW R w b t) (fun b t kv bs h1 h2 h3 h4 ih => ?_) h
  exact .mk h1 (hR _ h2 h1.lt) (fun g hg => hR _ (h3 g hg) (h1.row.lt hg)) ih
theorem RadW.keep {X : List Nat} (h : RadW P w b t) (hk : Keep X w w') (hP : ∀ x, P x → x ∉ X) : RadW P w' b t := by
  refine RadW.ind_ (Q := fun b t => RadW P w' b t) (fun b t kv bs h1 h2 h3 h4 ih => ?_) h
  exact .mk (h1.keep hk (hP _ h2) fun g hg => hP _ (h3 g hg)) h2 h3 ih
theorem RadW.stay (h : RadW P w b t) (hb : Below w.heap.size w w') : RadW P w' b t := h.keep (Keep.of_below (X := []) hb) (by simp)
/-- what is not from base on stays -/
theorem keep_of {base : Nat} (hb : Below base w w') : ∃ X, Keep X w w' ∧ ∀ x ∈ X, base ≤ x ∧ x < w.heap.size := by
  refine ⟨(List.range w.heap.size).filter fun x => decide (base ≤ x), ⟨hb.mono (Nat.zero_le _), fun i hi hx => ?_⟩, fun x hx => ?_⟩
  · refine hb.block i ?_
    rw [List.mem_filter, List.mem_range] at hx
    rcases Nat.lt_or_ge i base with h | h
    · exact h
    · exact absurd ⟨hi, by simpa using h⟩ hx
  · rw [List.mem_filter, List.mem_range] at hx
    exact ⟨by simpa using hx.2, hx.1⟩
theorem RadW.belowAt (h : RadW P w b t) (hb : Below base w w') (hP : ∀ x, P x → x < base) : RadW P w' b t := by
  obtain ⟨X, hk, hX⟩ := keep_of hb
  exact h.keep hk fun x hx hm => by have := hP x hx; have := (hX x hm).1; omega
theorem RadW.lt (h : RadW P w b t) : b < w.heap.size := by
  cases h with | mk h1 => exact h1.lt
theorem RadW.old (h : RadW P w b t) : RadW (fun x => P x ∧ x < w.heap.size) w b t := h.mono fun x hx hl => ⟨hx, hl⟩
/-- one block is one tree -/
theorem Nod.same {base' : Nat} {u : RX} {kv' : Value} {bs' : List Nat} (h : Nod base w b t kv bs) (h' : Nod base' w b u kv' bs') : t.lab = u.lab ∧ t.val = u.val ∧ kv = kv' ∧ bs = bs' := by
  obtain ⟨o, lab, val, sh, hB, h1, h2⟩ := h.blk
  obtain ⟨o', lab', val', sh', hB', h1', h2'⟩ := h'.blk
  unfold Blk at hB hB'
  rw [hB] at hB'
  simp only [Option.some.injEq, Obj.cells.injEq, and_true, true_and, Array.mk.injEq, List.cons.injEq, Value.string.injEq, Value.bool.injEq] at hB'
  obtain ⟨e0, e1, e2, e3, e4, e5⟩ := hB'
  subst e4
  refine ⟨by rw [← h1, ← h1', e1], ?_, rfl, ?_⟩
  · rw [h2, h2'] at e2
    cases ht : t.val <;> cases hu : u.val <;> rw [ht, hu] at e2 e3 <;> simp at e2 e3 ⊢
    exact e2
  · have r1 := h.row
    have r2 := h'.row
    rcases r1.2 with ⟨e, hn⟩ | ⟨g, cap, cur, e, -, hc, -, -, -, hx⟩
    · rcases r2.2 with ⟨e', hn'⟩ | ⟨g, cap, cur, e', _⟩
      · rw [List.length_eq_zero_iff.1 hn, List.length_eq_zero_iff.1 hn']
      · rw [e] at e'; cases e'
    · rcases r2.2 with ⟨e', hn'⟩ | ⟨g', cap', cur', e', -, hc', -, -, -, hx'⟩
      · rw [e] at e'; cases e'
      · rw [e] at e'
        simp only [Value.slice.injEq, Option.some.injEq, Addr.mk.injEq, and_true, true_and] at e'
        obtain ⟨rfl, hl, -⟩ := e'
        rw [hc] at hc'
        simp only [Option.some.injEq, Obj.cells.injEq, and_true] at hc'
        obtain ⟨rfl, -⟩ := hc'
        rw [← hl, hx] at hx'
        unfold kcs at hx'
        exact (List.map_inj_right fun a b h => by simpa [at0] using h).1 hx'
theorem RadW.same {R : Nat → Prop} (h : RadW P w b t) : ∀ {u : RX}, RadW R w b u → t = u := by
  refine RadW.ind_ (Q := fun b t => ∀ {u : RX}, RadW R w b u → t = u) (fun b t kv bs h1 h2 h3 h4 ih u hu => ?_) h
  cases hu with
  | mk g1 g2 g3 g4 =>
    obtain ⟨e1, e2, rfl, rfl⟩ := h1.same g1
    refine RX.ext e1 e2 (List.ext_getElem? fun i => ?_)
    rcases Nat.lt_or_ge i t.kids.length with hi | hi
    · have hu : i < u.kids.length := by rw [← g1.len, h1.len]; exact hi
      have hb : i < bs.length := by rw [h1.len]; exact hi
      rw [List.getElem?_eq_getElem hi, List.getElem?_eq_getElem hu]
      exact congrArg some (ih i bs[i] _ (List.getElem?_eq_getElem hb) (List.getElem?_eq_getElem hi) (g4 i bs[i] _ (List.getElem?_eq_getElem hb) (List.getElem?_eq_getElem hu)))
    · rw [List.getElem?_eq_none hi, List.getElem?_eq_none (by rw [← g1.len, h1.len]; exact hi)]
theorem MineW.rad (h : MineW P base w b t) (hP : ∀ x, base ≤ x → P x) : RadW P w b t := by
  obtain ⟨kv, bs, h1, h2, h3⟩ := h.ex
  exact .mk (h1.base_ (Nat.zero_le _)) (hP _ h2) (fun g hg => hP _ (own_ge h1.row g hg)) fun i c k hc hk => (h3 i c k hc hk).mono fun x hx _ => hx.1
theorem MineW.base_ (h : MineW P base w b t) {c : Nat} (hc : c ≤ base) : MineW P c w b t := by
  obtain ⟨kv, bs, h1, h2, h3⟩ := h.ex
  exact ⟨kv, bs, h1.base_ hc, Nat.le_trans hc h2, h3⟩
theorem MineW.mono (h : MineW P base w b t) (hR : ∀ x, P x → x < w.heap.size → R x) : MineW R base w b t := by
  obtain ⟨kv, bs, h1, h2, h3⟩ := h.ex
  exact ⟨kv, bs, h1, h2, fun i c k hc hk => (h3 i c k hc hk).mono fun x hx hl => ⟨hR x hx.1 hl, hx.2⟩⟩
theorem MineW.below (h : MineW P base w b t) (hb : Below w.heap.size w w') : MineW P base w' b t := by
  obtain ⟨kv, bs, h1, h2, h3⟩ := h.ex
  exact ⟨kv, bs, h1.keep (Keep.of_below (X := []) hb) (by simp) (by simp), h2, fun i c k hc hk => (h3 i c k hc hk).stay hb⟩
end
/-- a token that is not live, or none -/
def DeadT (base : Nat) (w : World) (v : Value) : Prop := v = .pointer none ∨ ∃ t p id, v = at0 t ∧ Tok w t p id false ∧ t < base
theorem DeadT.below {base : Nat} {w w' : World} {v : Value} (h : DeadT base w v) (hb : Below base w w') : DeadT base w' v := by
  rcases h with h | ⟨t, p, id, h1, h2, h3⟩
  · exact .inl h
  · exact .inr ⟨t, p, id, h1, (hb.block t h3).trans h2, h3⟩
theorem DeadT.up {base c : Nat} {w : World} {v : Value} (h : DeadT base w v) (hc : base ≤ c) : DeadT c w v := by
  rcases h with h | ⟨t, p, id, h1, h2, h3⟩
  · exact .inl h
  · exact .inr ⟨t, p, id, h1, h2, by omega⟩
theorem DeadT.live {base : Nat} {w : World} {v : Value} (h : DeadT base w v) : Calls Try.prog 104 #[v] w fun e w' => e = .returned (.bool false) ∧ w = w' := by
  rcases h with rfl | ⟨t, p, id, rfl, h2, h3⟩
  · exact live_nil w
  · exact live_any t p id false w h2
theorem DeadT.form {base : Nat} {w : World} {v : Value} (h : DeadT base w v) : ∃ a, v = .pointer a := by
  rcases h with rfl | ⟨t, p, id, rfl, h2, h3⟩
  · exact ⟨_, rfl⟩
  · exact ⟨_, rfl⟩
end Go.Proofs.Ytimhdegdmdilaaa
/- The reference's Sorted. -/
namespace Go.Proofs.Ytimhdegdmdilaaa
open Go.RowKit Go.Lib
set_option linter.unusedVariables false
set_option maxRecDepth 100000
set_option maxRecDepth 100000
set_option linter.unusedSimpArgs false
set_option linter.unnecessarySimpa false
theorem sized_mem {L : List Pr} (h : ∀ x ∈ L, x.1.size ≤ maxLen) : Sized L := by
  intro j
  by_cases hj : j < L.length
  · have hm : pat L j ∈ L := by unfold pat; rw [List.getElem?_eq_getElem hj]; exact List.getElem_mem _
    exact h _ hm
  · unfold pat
    rw [List.getElem?_eq_none (by omega)]
    simp [maxLen]
theorem mem_sized {L : List Pr} (h : Sized L) : ∀ x ∈ L, x.1.size ≤ maxLen := by
  intro x hx
  obtain ⟨i, hi, e⟩ := List.getElem_of_mem hx
  have := h i
  unfold pat at this
  rw [List.getElem?_eq_getElem hi] at this
  simpa [e] using this
theorem insK_length (p : Pr) (D : List Pr) : (insK p D).length = D.length + 1 := by
  induction D with
  | nil => rfl
  | cons q r ih => unfold insK; split <;> simp [ih]
theorem putK_length (xs : List Pr) (p : Pr) : (putK xs p).length ≤ xs.length + 1 := by
  unfold putK
  rw [insK_length]
  have : (dropK xs p.1).length ≤ xs.length := List.length_filter_le _ _
  omega
theorem sized_put {xs : List Pr} {p : Pr} (h : Sized xs) (hp : p.1.size ≤ maxLen) : Sized (putK xs p) := by
  refine sized_mem fun x hx => ?_
  unfold putK at hx
  rcases (ins_mem p x _).1 hx with rfl | hx
  · exact hp
  · exact mem_sized h x ((drop_mem xs p.1 x).1 hx).1
theorem take_pat (xs : List Pr) (j : Nat) (h : j < xs.length) : xs.take (j + 1) = xs.take j ++ [pat xs j] := by
  rw [List.take_succ_eq_append_getElem h]
  simp [pat, h]
end Go.Proofs.Ytimhdegdmdilaaa
