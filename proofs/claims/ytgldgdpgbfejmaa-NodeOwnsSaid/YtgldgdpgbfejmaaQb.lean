/- The reference's Rises and Drop. -/
import Derived.Test.YtgldgdpgbfejmaaQa
import Derived.Test.YtgldgdpgbfejmaaPg
namespace Go.Proofs.Ytgldgdpgbfejmaa
open Go.RowKit Go.Lib
set_option linter.unusedVariables false
set_option linter.unusedSimpArgs false
/-- no key is longer than a string can be -/
def Sized (xs : List Pr) : Prop := ∀ j, (pat xs j).1.size ≤ maxLen
/-- those with another key -/
def dropK (xs : List Pr) (k : ByteArray) : List Pr := xs.filter fun p => !(p.1.toList == k.toList)
theorem drop_take (xs : List Pr) (k : ByteArray) (j : Nat) (h : j < xs.length) : dropK (xs.take (j + 1)) k = dropK (xs.take j) k ++ (if ((pat xs j).1.toList == k.toList) = true then [] else [pat xs j]) := by
  have et : xs.take (j + 1) = xs.take j ++ [pat xs j] := by
    rw [List.take_succ_eq_append_getElem h]
    simp [pat, h]
  unfold dropK
  rw [et, List.filter_append]
  congr 1
  by_cases hk : ((pat xs j).1.toList == k.toList) = true
  · rw [if_pos hk]; simp [hk]
  · rw [if_neg hk]; simp at hk; simp [hk]
theorem drop_le (xs : List Pr) (k : ByteArray) (j : Nat) : (dropK (xs.take j) k).length ≤ j := Nat.le_trans (List.length_filter_le _ _) (by rw [List.length_take]; omega)
set_option maxRecDepth 100000 in
set_option maxHeartbeats 4000000 in
theorem refDrop_any (A : Option Addr) (c : Nat) (xs : List Pr) (k : ByteArray) (w : World) (hR : Rd w A xs) (hn : xs.length ≤ 1000) :
    Calls Try.prog 69 #[.slice A xs.length c, .string k] w fun e w' => ∃ v, e = .returned v ∧ OwnR w.heap.size w' v (dropK xs k) ∧ Below w.heap.size w w' := by
  obtain ⟨i0, hi, hz0, hz1, hz2⟩ := info_parts info40
  obtain ⟨n, hxs⟩ : ∃ n, n = xs.length := ⟨_, rfl⟩
  rw [← hxs] at hn ⊢
  have HX := Lib.hid hxs
  have HR := Lib.hid hR
  clear hxs hR
  go_enter Try.func69, Try.ntmps69
  go_wp2_with fail
  go_loopw [5, 10] (fun v i wr => ∃ j : Nat, j ≤ n ∧ i = .int .i64 j ∧ OwnR w.heap.size wr v (dropK (xs.take j) k) ∧ Below w.heap.size w wr) (fun v i wr => n - (intOf i).toNat)
  case atStart => exact ⟨0, by omega, rfl, World.ownsRow_nil _ _ _ _, Below.refl _ _⟩
  case round =>
    obtain ⟨j, hj, rfl, hO, hB⟩ := hrel
    by_cases hlt : j < n
    · obtain ⟨g, off, rfl, c0, c1⟩ := (HR.out.below hB).at j (by rw [← HX.out]; exact hlt)
      have hrow : wr.ownsRow w.heap.size 81 2 u5 (dropK (xs.take j) k).length (flat (dropK (xs.take j) k)) := hO
      have hdl := drop_le xs k j
      have hdt := Lib.hid (drop_take xs k j (by rw [← HX.out]; exact hlt))
      have hb2 : Below w.heap.size w (wr.alloc (.cells #[.string (pat xs j).1, .string (pat xs j).2] 81)) := hB.alloc hB.size _
      have hrow2 := hrow.alloc (.cells #[.string (pat xs j).1, .string (pat xs j).2] 81)
      have hbx := Blk.new wr 81 #[.string (pat xs j).1, .string (pat xs j).2]
      clear hO hB
      go_upto_region 5 with (fail)
      generalize wr.alloc (.cells #[.string (pat xs j).1, .string (pat xs j).2] 81) = W at *
      generalize wr.heap.size = Bx at *
      have b0 : W.cell? ⟨Bx, 0, none⟩ = some (.string (pat xs j).1) := hbx.cell 0
      have b1 : W.cell? ⟨Bx, 1, none⟩ = some (.string (pat xs j).2) := hbx.cell 1
      clear hbx c0 c1 hrow
      generalize dropK (xs.take j) k = R at *
      cases hq : ((pat xs j).1.toList == k.toList) with
      | true =>
        go_wp2_with fail
        refine ⟨⟨j + 1, by omega, by go_num, ?_, hb2⟩, by simp [intOf]; omega⟩
        rw [hdt.out, if_pos hq, List.append_nil]
        exact hrow2
      | false =>
        go_wp2_with (at_builtin; refine wpList_append_own _ rfl _ _ 83 rfl w.heap.size 81 i0 _ 2 32 Try.underlying83 hi hz0 hz1 hz2 rfl (by decide) _ _ _ rfl (hrow2.alloc _) ⟨W.heap.size, 0, none⟩ 1 1 [.string (pat xs j).1, .string (pat xs j).2] rfl rfl (cell_two_new _ _ _ _) (flat_cell (pat xs j)) (by unfold maxLen; omega) (by omega) (by have := hb2.size; simp; omega) ?_; intro v' wa hown' hgrow hnil)
        have hB5 : Below w.heap.size w wa := (hb2.alloc hb2.size _).grown hgrow (by have := hb2.size; simp; omega) (own_ge hrow2)
        refine ⟨⟨j + 1, by omega, by go_num, ?_, hB5⟩, by simp [intOf]; omega⟩
        rw [hdt.out, if_neg (by rw [hq]; simp)]
        unfold OwnR
        rw [flat_snoc, List.length_append]
        exact hown'
    · go_wp2_with fail
      go_ret
      rw [List.take_of_length_le (by rw [← HX.out]; omega)] at hO
      exact ⟨_, rfl, hO, hB⟩
end Go.Proofs.Ytgldgdpgbfejmaa
