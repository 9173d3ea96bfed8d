/- What New does, for every number of ids. -/
import Derived.Test.YtgldgdpgbfejmaaTc
namespace Go.Proofs.Ytgldgdpgbfejmaa
open Go.RowKit Go.Conc
set_option linter.unusedVariables false
set_option linter.unusedSimpArgs false

theorem bytes3 : ∃ i, Try.prog.info? 3 = some i ∧ i.bytes = 8 := by
  have h : (Try.prog.info? 3).map (·.bytes) = some 8 := by kernel_rfl
  obtain ⟨i, hi, hb⟩ := Option.map_eq_some_iff.1 h
  exact ⟨i, hi, hb⟩
theorem mkChan (n : Nat) (h : n ≤ 4096) (w : World) : (Instr.makeChan 108 (.int .i64 n)).run Try.prog w = .ok (.chan (some w.heap.size)) (w.alloc (.chan n #[] false 0 0 false)) := by
  obtain ⟨i, hi, hb⟩ := bytes3
  exact run_makeChan (P := Try.prog) (w := w) Try.underlying108 hi .i64 n (by omega) (by rw [hb]; omega)
/-- the ids 1 to n -/
def upto (n : Nat) : List Nat := List.range' 1 n
theorem upto_succ (n : Nat) : upto (n + 1) = upto n ++ [n + 1] := by
  unfold upto
  rw [List.range'_concat, Nat.one_mul, Nat.add_comm 1 n]
theorem upto_length (n : Nat) : (upto n).length = n := by simp [upto]

set_option maxHeartbeats 1000000 in
theorem new_bad (n : Int) (w : World) (h : n < 1 ∨ 4096 < n) : Calls Try.prog 32 #[.int .i64 n] w fun e w' => e = .returned (.tuple #[.pointer none, .int .i64 1]) ∧ w = w' := by
  refine calls_of_wpN Try.func32 rfl ?_
  simp only [Try.ntmps32, List.size_toArray, List.length_cons, List.length_nil, Nat.reduceAdd, Nat.reduceSub, Array.replicate_succ, Array.replicate_zero, List.push_toArray, List.append_toArray, List.nil_append, List.cons_append]
  refine wpN_seq' ?_
  go_wp2
  refine wpN_seq' ?_
  by_cases h1 : n < 1
  · clear h
    go_wp2
    go_ret2
    exact ⟨rfl, rfl⟩
  · have h2 : 4096 < n := by omega
    clear h
    go_wp2
    go_ret2
    exact ⟨rfl, rfl⟩

/-- the slots of New in its loop -/
def NewAt (n p c : Nat) (w0 : World) (m : Nat) (a : Act) (w : World) : Prop :=
  ∃ j : Nat, j ≤ n ∧ m = n - j ∧ (∃ x1 x5 x6 x7 x8 x9 x10 x11 x12 x13 x14 x15 x16 x19 x20 x21 x22 x23 x24 x25 x26 x27 x28 : Value,
    a = ⟨#[.int .i64 n, x1, .pointer none, .int .i64 0, at0 p, x5, x6, x7, x8, x9, x10, x11, x12, x13, x14, x15, x16, .int .i64 n, .int .i64 j, x19, x20, x21, x22, x23, x24, x25, x26, x27, x28], []⟩) ∧
    Pool w p c n 0 (upto j) ∧ w.heap.size = w0.heap.size + 2 ∧ Below w0.heap.size w0 w

set_option maxRecDepth 100000 in
set_option maxHeartbeats 2000000 in
theorem new_ok (n : Nat) (w : World) (h1 : 1 ≤ n) (h2 : n ≤ 4096) : Calls Try.prog 32 #[.int .i64 n] w fun e w' =>
    e = .returned (.tuple #[at0 (w.heap.size + 1), .int .i64 0]) ∧ Pool w' (w.heap.size + 1) w.heap.size n 0 (upto n) ∧ w'.heap.size = w.heap.size + 2 ∧ Below w.heap.size w w' := by
  have hmc := mkChan n h2
  refine calls_of_wpN Try.func32 rfl ?_
  simp only [Try.ntmps32, List.size_toArray, List.length_cons, List.length_nil, Nat.reduceAdd, Nat.reduceSub, Array.replicate_succ, Array.replicate_zero, List.push_toArray, List.append_toArray, List.nil_append, List.cons_append]
  refine wpN_seq' ?_
  go_wp2
  refine wpN_seq' ?_
  go_wp2
  refine wpN_seq' ?_
  go_wp2
  refine wpN_seq (wpN_seq' ?_)
  go_wp2
  have hw0 : (w.alloc (.chan n #[] false 0 0 false)).heap.size = w.heap.size + 1 := by simp
  have hP0 : Pool ((w.alloc (.chan n #[] false 0 0 false)).alloc (.cells #[.chan (some w.heap.size), .int .i64 n, .int .i64 0] 110)) (w.heap.size + 1) w.heap.size n 0 (upto 0) := by
    refine ⟨?_, 0, 0, ?_⟩
    · have := Blk.new (w.alloc (.chan n #[] false 0 0 false)) 110 #[.chan (some w.heap.size), .int .i64 n, .int .i64 0]
      rw [hw0] at this
      exact this
    · rw [Below.heap_alloc _ _ _ (by simp)]
      exact heap_alloc_new _ _
  have hB0 : Below w.heap.size w ((w.alloc (.chan n #[] false 0 0 false)).alloc (.cells #[.chan (some w.heap.size), .int .i64 n, .int .i64 0] 110)) :=
    ((Below.refl _ w).alloc (Nat.le_refl _) _).alloc (by simp) _
  refine wpN_block (wpN_loop (NewAt n (w.heap.size + 1) w.heap.size w) n ?_ ?_)
  · refine ⟨0, Nat.zero_le _, rfl, ⟨_, _, _, _, _, _, _, _, _, _, _, _, _, _, _, _, _, _, _, _, _, _, _, rfl⟩, hP0, by simp, hB0⟩
  · rintro m a W ⟨j, hj, rfl, ⟨x1, x5, x6, x7, x8, x9, x10, x11, x12, x13, x14, x15, x16, x19, x20, x21, x22, x23, x24, x25, x26, x27, x28, rfl⟩, hP, hS, hB⟩
    clear hmc hP0 hB0 hw0
    unfold at0
    by_cases hlt : j < n
    · have HS := Lib.hid hS
      have HP := Lib.hid hP
      have hl := hP.lt
      obtain ⟨hb, s, r, hc⟩ := hP
      obtain ⟨⟨c0, -⟩, -⟩ := tok3 hb
      clear hS
      refine wpN_seq' ?_
      go_wp2
      refine wpN_seq' ?_
      go_wp2
      refine wpN_seq (wpN_block (wpN_seq' ?_))
      go_wp2
      have E1 : IntKind.i64.wrap ((j : Int) + 1) = ((j + 1 : Nat) : Int) := by rw [IntWalk.i64_in _ (by omega)]; omega
      refine wpN_region ?_
      simp only [List.size_toArray, List.length_cons, List.length_nil, Nat.reduceAdd, Nat.zero_add, List.range, List.range.loop]
      refine arr_value (v := .pointer (some ⟨w.heap.size + 1, 0, none⟩)) (w' := W) rfl rfl (by simp [go_sem, execOp, Act.eval]) ?_
      walk_nrm
      refine arr_value (v := .pointer (some ⟨w.heap.size + 1, 0, none⟩)) (w' := W) rfl rfl (by simp [go_sem, execOp, Act.eval]) ?_
      walk_nrm
      refine arr_value (v := .pointer (some ⟨w.heap.size + 1, 0, none⟩)) (w' := W) rfl rfl (by simp [go_sem, execOp, Act.eval]) ?_
      walk_nrm
      refine arr_value (v := .chan (some w.heap.size)) (w' := W) rfl rfl (by simp [go_sem, execOp, Act.eval, c0]) ?_
      walk_nrm
      refine arr_value (v := .int .i64 j) (w' := W) rfl rfl (by simp [go_sem, execOp, Act.eval]) ?_
      walk_nrm
      refine arr_value (v := .int .i64 ((j + 1 : Nat) : Int)) (w' := W) rfl rfl (by simp only [execOp, Act.eval]; simp [go_sem, E1]) ?_
      walk_nrm
      refine arr_send (c := w.heap.size) (v := .int .i64 ((j + 1 : Nat) : Int)) (z := .tuple #[]) (w' := W) rfl rfl (by simp [execOp, scase, Act.eval]) hc (by rw [ids_size, upto_length]; exact hlt) ?_
      rw [ids_push, ← upto_succ]
      refine arr_nil ?_
      walk_nrm
      refine wpN_of_wp ?_
      go_wp2
      refine ⟨n - (j + 1), by omega, j + 1, by omega, rfl, ⟨_, _, _, _, _, _, _, _, _, _, _, _, _, _, _, _, _, _, _, _, _, _, _, rfl⟩, ⟨Blk.chan hb hl.2.2 _ _ _ _ _ _, s + 1, r, heap_setChan _ _ _ _ _ _ _ _ hl.2.1⟩, ?_, below_setChan hB (Nat.le_refl _) _ _ _ _ _ _⟩
      rw [size_setChan]; exact HS.out
    · obtain rfl : j = n := by omega
      have HS := Lib.hid hS
      have HP := Lib.hid hP
      clear hS hP
      refine wpN_seq' ?_
      go_wp2
      refine wpN_seq' ?_
      go_wp2
      refine wpN_of_wp ?_
      go_wp2
      go_ret2
      exact ⟨rfl, HP.out, HS.out, hB⟩
end Go.Proofs.Ytgldgdpgbfejmaa
