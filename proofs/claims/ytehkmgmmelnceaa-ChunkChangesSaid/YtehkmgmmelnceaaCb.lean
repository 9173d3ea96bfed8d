/- The numbers of a set, and the contract of the iterator of package chunk: it hands over the numbers of the set in order. -/
import Derived.Test.YtehkmgmmelnceaaCa
import Derived.RangeFuncNested
import Derived.RangeFuncBound
import Derived.RangeFuncCalls
import Derived.RangeFuncLeaves
import Derived.RangeFuncBox
import Derived.Shelf.Abstract
import Derived.Shelf.RegionOpen
import Derived.OwnWalkIn
import Derived.TacticsInMore
import Derived.LoopNIn
import Derived.LoopIn
import Derived.Maps.AppendAt
import Derived.Laws.OwnMore
import Derived.Laws.Rows
namespace Go.Proofs.Ytehkmgmmelnceaa
open Go.RowKit Go.Shelf
set_option linter.unusedVariables false
set_option linter.unusedSimpArgs false
attribute [local go_sem] Oper.semAt_some

/-- block g is just these cells, none of them frozen -/
def CBlk (w : World) (g : Nat) (t : TypeId) (cs : Array Value) : Prop := w.heap[g]? = some (.cells cs t (0, 0))
theorem CBlk.lt {w : World} {g : Nat} {t : TypeId} {cs : Array Value} (h : CBlk w g t cs) : g < w.heap.size := by
  rcases Nat.lt_or_ge g w.heap.size with hlt | hge
  · exact hlt
  · unfold CBlk at h; rw [Array.getElem?_eq_none hge] at h; cases h
theorem CBlk.cell {w : World} {g : Nat} {t : TypeId} {cs : Array Value} (h : CBlk w g t cs) (i : Nat) : w.cell? ⟨g, i, none⟩ = cs[i]? := cell_of_row w g i cs t (0, 0) h
theorem CBlk.frozen {w : World} {g : Nat} {t : TypeId} {cs : Array Value} (h : CBlk w g t cs) (i : Nat) : w.frozen? ⟨g, i, none⟩ = false := by
  unfold CBlk at h
  simp [World.frozen?, h]
theorem CBlk.new (w : World) (t : TypeId) (cs : Array Value) : CBlk (w.alloc (.cells cs t)) w.heap.size t cs := heap_alloc_new w _
theorem CBlk.alloc {w : World} {g : Nat} {t : TypeId} {cs : Array Value} (h : CBlk w g t cs) (o : Obj) : CBlk (w.alloc o) g t cs := (Below.heap_alloc w o g h.lt).trans h
theorem CBlk.below {w w' : World} {g : Nat} {t : TypeId} {cs : Array Value} {B : Nat} (h : CBlk w g t cs) (hb : Below B w w') (hg : g < B) : CBlk w' g t cs := (hb.block g hg).trans h

/-- the numbers of a set that are less than k, rising -/
def elsTo (b k : Nat) : List Nat := (List.range k).filter fun i => b.testBit i
theorem elsTo_succ (b k : Nat) : elsTo b (k + 1) = elsTo b k ++ if b.testBit k then [k] else [] := by
  unfold elsTo
  rw [List.range_succ, List.filter_append]
  cases h : b.testBit k <;> simp [h]
theorem elsTo_yes (b k : Nat) (h : b.testBit k = true) : elsTo b (k + 1) = elsTo b k ++ [k] := by rw [elsTo_succ, if_pos h]
theorem elsTo_no (b k : Nat) (h : b.testBit k = false) : elsTo b (k + 1) = elsTo b k := by rw [elsTo_succ, h]; simp
theorem elsTo_prefix (b k m : Nat) (h : k ≤ m) : elsTo b k <+: elsTo b m := by
  induction m with
  | zero => obtain rfl : k = 0 := by omega
            exact List.prefix_refl _
  | succ m ih =>
    by_cases e : k = m + 1
    · subst e; exact List.prefix_refl _
    · refine List.IsPrefix.trans (ih (by omega)) ?_
      rw [elsTo_succ]; exact List.prefix_append _ _
theorem elsTo_len (b k m : Nat) (h : k < m) (ht : b.testBit k = true) : (elsTo b k).length < (elsTo b m).length := by
  have h1 := (elsTo_prefix b (k + 1) m h).length_le
  rw [elsTo_yes b k ht] at h1
  simp at h1
  omega
theorem has_bit (b k : Nat) (hk : k < 32) : (b &&& onl k != 0) = b.testBit k := by
  have e : onl (k : Int) = 2 ^ k := by simp [onl]; omega
  rw [e, Nat.testBit_eq_decide_div_mod_eq]
  have h1 : b &&& 2 ^ k = if b.testBit k then 2 ^ k else 0 := by
    apply Nat.eq_of_testBit_eq
    intro i
    rw [Nat.testBit_and, Nat.testBit_two_pow]
    by_cases hi : k = i
    · subst hi
      cases h : b.testBit k <;> simp [h]
    · cases h : b.testBit k <;> simp [hi]
  rw [h1, Nat.testBit_eq_decide_div_mod_eq]
  have hp : 2 ^ k ≠ 0 := Nat.ne_of_gt (Nat.two_pow_pos k)
  by_cases hd : b / 2 ^ k % 2 = 1 <;> simp [hd, hp]
theorem has_yes (b k : Nat) (w : World) (h1 : b < 4294967296) (hk : k < 32) (ht : b.testBit k = true) :
    Calls Try.prog 23 #[.int .u32 b, .int .i64 k] w fun e w' => e = .returned (.bool true) ∧ w = w' := by
  have h := has_any b k w h1
  rw [has_bit b k hk, ht] at h
  exact h
theorem has_no (b k : Nat) (w : World) (h1 : b < 4294967296) (hk : k < 32) (ht : b.testBit k = false) :
    Calls Try.prog 23 #[.int .u32 b, .int .i64 k] w fun e w' => e = .returned (.bool false) ∧ w = w' := by
  have h := has_any b k w h1
  rw [has_bit b k hk, ht] at h
  exact h

/-- what a round must keep: the block of the set that the iterator reads -/
def KpB (B : Nat) (W W' : World) : Prop := W'.heap[B]? = W.heap[B]?
theorem KpB_t {B : Nat} {X Y Z : World} (h : KpB B X Y) (k : KpB B Y Z) : KpB B X Z := Eq.trans k h
theorem KpB_b {B : Nat} {w : World} (hB : B < w.heap.size) (W : World) (l : Nat) (o o' : Obj) (hl : w.heap.size ≤ l) (h : W.heap[l]? = some o) (_ : o.isCells = false) (_ : o.isWalk = false) : KpB B W (W.putObj l o') :=
  World.putObj_heap_other (by omega)

set_option maxRecDepth 100000 in
set_option maxHeartbeats 1000000 in
theorem all1_in (n l Bn b : Nat) (hb : b < 4294967296) (J Jx : List Nat → World → Prop)
    (hY : ∀ pre (x : Nat) W, J pre W → pre.length < (elsTo b 32).length → YieldAt Fence.wide (n - 1) Try.prog l #[.int .i64 x] W fun e W' =>
      (e = .returned (.bool true) ∧ J (pre ++ [x]) W' ∧ KpB Bn W W') ∨ (e = .returned (.bool false) ∧ Jx (pre ++ [x]) W'))
    (hn : 1 ≤ n) (W : World) (hBn : CBlk W Bn 44 #[.int .u32 b]) (h0 : J [] W) :
    CallsIn Fence.wide n Try.prog 43 #[.func (.yield l) #[] #[], .pointer (some ⟨Bn, 0, none⟩)] W fun e W' => (∃ v, e = .returned v) ∧
      ((∃ ys, ys = elsTo b 32 ∧ J ys W') ∨ (∃ pre, pre <+: elsTo b 32 ∧ Jx pre W')) := by
  refine callsIn_of_wp Try.func43 rfl trivial ?_ rfl
  simp only [Try.ntmps43, List.size_toArray, List.length_cons, List.length_nil, Nat.reduceAdd, Nat.reduceSub, Array.replicate_succ, Array.replicate_zero, List.push_toArray, List.append_toArray, List.nil_append, List.cons_append]
  gi_wp2
  gi_loopw [4] (fun i wr => ∃ k : Nat, k ≤ 32 ∧ i = .int .i64 k ∧ J (elsTo b k) wr ∧ CBlk wr Bn 44 #[.int .u32 b]) (fun i wr => 32 - (intOf i).toNat)
  case atStart => exact ⟨0, by omega, rfl, h0, hBn⟩
  case round =>
    obtain ⟨k, hk, rfl, hJ, hB⟩ := hrel
    have c0 := hB.cell 0
    by_cases hlt : k < 32
    · have d1 : decide ((k : Int) < 32) = true := by simp; omega
      cases ht : b.testBit k
      · have ht' := Lib.hid ht
        clear ht
        gi_wp2_with (refine ⟨trivial, ?_⟩; gi_at_call 23; refine (callsIn_wide.2 (has_no b k _ hb hlt ht'.out)).mono ?_; rintro e w' ⟨rfl, rfl⟩)
        refine ⟨fun _ h => (by cases h), ?_⟩
        gi_wp2
        go_roundw
        case rel => exact ⟨k + 1, by omega, by go_num, by rw [elsTo_no b k ht'.out]; exact hJ, hB⟩
        case measure => simp [intOf]; omega
      · have ht' := Lib.hid ht
        clear ht
        obtain ⟨fn, tmps, assign, body, hy, hR⟩ := hY (elsTo b k) k wr hJ (elsTo_len b k 32 hlt ht'.out)
        gi_wp2_with (refine ⟨trivial, ?_⟩; gi_at_call 23; refine (callsIn_wide.2 (has_yes b k _ hb hlt ht'.out)).mono ?_; rintro e w' ⟨rfl, rfl⟩)
        refine hR.mono ?_
        rintro e W3 (⟨rfl, hJ3, hk3⟩ | ⟨rfl, hJx3⟩)
        · gi_wp2
          go_roundw
          case rel => exact ⟨k + 1, by omega, by go_num, by rw [elsTo_yes b k ht'.out]; exact hJ3, Eq.trans hk3 hB⟩
          case measure => simp [intOf]; omega
        · gi_wp2
          refine bodyPost_ret (results_none rfl _ _ _) rfl ?_
          exact ⟨⟨_, rfl⟩, .inr ⟨elsTo b k ++ [k], by rw [← elsTo_yes b k ht'.out]; exact elsTo_prefix b (k + 1) 32 hlt, hJx3⟩⟩
    · obtain rfl : k = 32 := by omega
      gi_wp2
      go_end0
      exact ⟨⟨_, rfl⟩, .inl ⟨_, rfl, hJ⟩⟩

theorem all_stops (n Bn b : Nat) (hn : 1 ≤ n) (hb : b < 4294967296) (w : World) (hB : CBlk w Bn 44 #[.int .u32 b]) :
    SeqStopsK Fence.wide n Try.prog 43 #[.pointer (some ⟨Bn, 0, none⟩)] (fun x : Nat => #[Value.int .i64 x]) (KpB Bn) (fun ys => ys = elsTo b 32) (fun pre => pre <+: elsTo b 32) (elsTo b 32).length w :=
  fun l J Jx W hW _ _ hY h0 => all1_in n l Bn b hb J Jx hY hn W (hB.below hW hB.lt) h0

set_option maxHeartbeats 1000000 in
theorem all_any (b : Nat) (w : World) :
    Calls Try.prog 29 #[.int .u32 b] w fun e w' => e = .returned (.func (.func 43) #[] #[.pointer (some ⟨w.heap.size, 0, none⟩)]) ∧ w.alloc (.cells #[.int .u32 b] 44) = w' := by
  go_enter Try.func29, Try.ntmps29
  go_wp2
  go_ret
  exact ⟨rfl, rfl⟩
end Go.Proofs.Ytehkmgmmelnceaa
