/- Contracts of the reference's List, and of what reads a slice of numbers. -/
import Derived.Test.YtehkmgmmelnceaaCc
import Derived.OwnWalk
namespace Go.Proofs.Ytehkmgmmelnceaa
open Go.RowKit Go.Shelf
set_option linter.unusedVariables false
set_option linter.unusedSimpArgs false

theorem info3 : (Try.prog.info? 3).map (fun i => (i.zero, i.size, i.bytes)) = some (some (.int .i64 0), 1, 8) := by kernel_rfl
theorem elsTo_le (b k : Nat) : (elsTo b k).length ≤ k := by rw [← cnt_els]; exact cnt_le k b
/-- the numbers as values -/
def vals (xs : List Nat) : List Value := xs.map fun (x : Nat) => Value.int .i64 (x : Int)
theorem vals_snoc (xs : List Nat) (x : Nat) : vals (xs ++ [x]) = vals xs ++ [Value.int .i64 (x : Int)] := by simp [vals]
theorem bit_low (b k : Nat) : (b / 2 ^ k % 2 = 1) ↔ b.testBit k = true := by
  rw [Nat.testBit_eq_decide_div_mod_eq]; simp

theorem own_ge {w : World} {base : Nat} {e : TypeId} {size n : Nat} {v : Value} {xs : List Value} (h : w.ownsRow base e size v n xs) : ∀ k, v.ownBlock = some k → base ≤ k := by
  rcases h.2 with ⟨rfl, _⟩ | ⟨g, cap, cur, rfl, hg, _⟩
  · intro k hk; simp [Value.ownBlock] at hk
  · intro k hk; simp [Value.ownBlock] at hk; omega
set_option maxRecDepth 100000 in
set_option maxHeartbeats 2000000 in
theorem list_any (b : Nat) (w : World) (hb : b < 4294967296) :
    Calls Try.prog 20 #[.int .u32 b] w fun e w' => ∃ v, e = .returned v ∧ w'.ownsRow w.heap.size 3 1 v (elsTo b 32).length (vals (elsTo b 32)) ∧ Below w.heap.size w w' := by
  obtain ⟨i0, hi, hz0, hz1, hz2⟩ := info_parts info3
  go_enter Try.func20, Try.ntmps20
  go_wp2_with fail
  go_loopw [0, 3, 4] (fun c v i wr => ∃ k m : Nat, k ≤ 32 ∧ i = .int .i64 k ∧ c = .int .u32 m ∧ Hid (m = b / 2 ^ k) ∧ m < 4294967296 ∧ wr.ownsRow w.heap.size 3 1 v (elsTo b k).length (vals (elsTo b k)) ∧ Below w.heap.size w wr) (fun c v i wr => 32 - (intOf i).toNat)
  case atStart => exact ⟨0, b, by omega, rfl, rfl, Lib.hid (by simp), hb, World.ownsRow_nil _ _ _ _, Below.refl _ _⟩
  case round =>
    obtain ⟨k, m, hk, rfl, rfl, hm, hm2, hrow, hB⟩ := hrel
    by_cases hlt : k < 32
    · have hstep : Hid (m / 2 = b / 2 ^ (k + 1)) := Lib.hid (by rw [hm.out, Nat.div_div_eq_div_mul, Nat.pow_succ])
      by_cases ht : b.testBit k = true
      · have h1 : ((m : Int) % 2 == 1) = true := by rw [beq_iff_eq]; have := (bit_low b k).2 ht; rw [← hm.out] at this; omega
        have HT := Lib.hid ht
        have hle := elsTo_le b k
        clear ht
        go_wp2_with (at_builtin; refine wpList_append_own _ rfl _ _ 45 rfl w.heap.size 3 i0 (.int .i64 0) 1 8 Try.underlying45 hi hz0 hz1 hz2 rfl (by decide) _ _ _ rfl (hrow.alloc _) ⟨wr.heap.size, 0, none⟩ 1 1 [.int .i64 k] rfl rfl (cell_one_new _ _ _) (by simp [Value.oneCell']) (by unfold maxLen; omega) (by omega) (by have := hB.size; simp; omega) ?_; intro v' w1 hown' hgrow _; obtain ⟨g', cap', rfl⟩ := ownsRow_succ hown')
        have hB2 : Below w.heap.size w w1 := (hB.alloc hB.size _).grown hgrow (by have := hB.size; simp; omega) (own_ge hrow)
        refine ⟨⟨k + 1, m / 2, by omega, by go_num, by go_num, hstep, by omega, ?_, hB2⟩, by simp [intOf]; omega⟩
        rw [elsTo_yes b k HT.out, vals_snoc, List.length_append]
        exact hown'
      · have h1 : ((m : Int) % 2 == 1) = false := by
          rw [beq_eq_false_iff_ne]; intro h; apply ht; apply (bit_low b k).1; rw [← hm.out]; omega
        have HT : Hid (b.testBit k = false) := Lib.hid (by simpa using ht)
        clear ht
        go_wp2
        refine ⟨⟨k + 1, m / 2, by omega, by go_num, by go_num, hstep, by omega, by rw [elsTo_no b k HT.out]; exact hrow, hB⟩, by simp [intOf]; omega⟩
    · obtain rfl : k = 32 := by omega
      go_wp2
      go_ret
      exact ⟨_, rfl, hrow, hB⟩
end Go.Proofs.Ytehkmgmmelnceaa
