/- New of the reference. -/
import Derived.Test.YtfipifjlmepooaaTr
namespace Go.Proofs.Ytfipifjlmepooaa
open Go.RowKit Go.Conc
set_option linter.unusedVariables false
set_option linter.unusedSimpArgs false
theorem cell_one (w : World) (u : Value) (t : TypeId) : ∀ j x, [u][j]? = some x → (w.alloc (.cells #[u] t)).cell? ((⟨w.heap.size, 0, none⟩ : Addr).add j) = some x :=
  World.news_of_block (heap_alloc_new w (.cells #[u] t))
set_option maxRecDepth 100000 in
set_option maxHeartbeats 2000000 in
theorem refNew (k : Nat) (w : World) (hk : k ≤ 100) :
    Calls Try.prog 32 #[.int .i64 k] w fun e w' => ∃ x vr vl vi, e = .returned (at0 x) ∧ RefP w.heap.size w' x k vr vl vi (upto k) [] [] ∧ Below w.heap.size w w' := by
  obtain ⟨i0, hi, hz0, hz1, hz2⟩ := info_parts info3
  have hB0 : Below w.heap.size w (w.alloc (.cells #[.int .i64 k, .slice none 0 0, .slice none 0 0, .slice none 0 0] 66)) := (Below.refl _ w).alloc (Nat.le_refl _) _
  have hR0 : RefP w.heap.size (w.alloc (.cells #[.int .i64 k, .slice none 0 0, .slice none 0 0, .slice none 0 0] 66)) w.heap.size k (.slice none 0 0) (.slice none 0 0) (.slice none 0 0) (upto 0) [] [] :=
    ⟨Blk.new w 66 _, Nat.le_refl _, World.ownsRow_nil _ _ _ _, World.ownsRow_nil _ _ _ _, World.ownsRow_nil _ _ _ _, fun g h => by cases h⟩
  have HR0 := Lib.hid hR0
  clear hR0
  unfold at0
  go_enter Try.func32, Try.ntmps32
  go_wp2_with fail
  go_loopw [4] (fun v wr => ∃ (j : Nat) (vr vl vi : Value), 1 ≤ j ∧ j ≤ k + 1 ∧ v = .int .i64 j ∧ RefP w.heap.size wr w.heap.size k vr vl vi (upto (j - 1)) [] [] ∧ Below w.heap.size w wr) (fun v wr => k + 1 - (intOf v).toNat)
  case atStart => exact ⟨1, _, _, _, by omega, by omega, rfl, HR0.out, hB0⟩
  case round =>
    clear HR0 hB0
    obtain ⟨j, vr, vl, vi, h1, hj, rfl, hR, hB⟩ := hrel
    by_cases hlt : j ≤ k
    · obtain ⟨⟨c1, c2, c3⟩, f1, f2, f3⟩ := hR.cells
      obtain ⟨n, hn⟩ : ∃ n, n = j - 1 := ⟨_, rfl⟩
      rw [← hn] at hR
      have hrow := hR.row
      rw [upto_length] at hrow
      have E1 : IntKind.i64.wrap ((j : Int) + 1) = ((j + 1 : Nat) : Int) := by rw [IntWalk.i64_in _ (by omega)]; omega
      have hnk : n ≤ 100 := by omega
      have HU : Hid (upto j = upto n ++ [j]) := Lib.hid (by rw [show j = n + 1 by omega, upto_succ])
      have hb1 : w.heap.size ≤ (wr.alloc (.cells #[.int .i64 (j : Int)] 3)).heap.size := by have := hB.size; simp; omega
      have hx := hR.blk.lt
      have hne := hR.ne
      have hfar : ∀ wa, (wr.alloc (.cells #[.int .i64 (j : Int)] 3)).grownBy wa vr.ownBlock → Blk wa w.heap.size 66 #[.int .i64 k, vr, vl, vi] := fun wa hg => (hg.block _ (by simp; omega) (Ne.symm hne.1)).trans (hR.blk.alloc _)
      have HF := Lib.hid hfar
      have HR := Lib.hid hR
      clear hR hfar hne hx hn
      go_wp2_with (at_builtin; refine wpList_append_own_at _ rfl _ _ 63 rfl w.heap.size 3 i0 _ 1 8 Try.underlying63 hi hz0 hz1 hz2 rfl (by decide) vr n (nums (upto n)) rfl (hrow.alloc _) ⟨wr.heap.size, 0, none⟩ 1 1 [.int .i64 (j : Int)] rfl rfl (cell_one _ _ _) (by simp [Value.oneCell']) (by unfold maxLen; omega) (by omega) hb1 ?_; intro v' wa hown' hgrow hnil hat; obtain ⟨g', cap', rfl⟩ := own_succ hown'; have ca := (HF.out wa hgrow).cell 1; have fa := (HF.out wa hgrow).frozen 1)
      refine ⟨⟨j + 1, .slice (some ⟨g', 0, none⟩) (n + 1) cap', vl, vi, by omega, by omega, by go_num, ?_, ?_⟩, by simp [intOf]; omega⟩
      · rw [Nat.add_sub_cancel, HU.out]
        refine (HR.out.alloc _).setRow hgrow ?_ ?_
        · rw [List.length_append, upto_length, nums_snoc]
          exact hown'
        · rcases hat with e | e
          · exact .inl e
          · exact .inr fun g hg => by rw [e] at hg; cases hg; exact Nat.le_refl _
      · exact ((hB.alloc hB.size _).grown hgrow hb1 (own_ge hrow)).setCell (Nat.le_refl _) _
    · go_wp2_with fail
      go_ret
      obtain rfl : j = k + 1 := by omega
      exact ⟨_, _, _, _, rfl, hR, hB⟩
end Go.Proofs.Ytfipifjlmepooaa
