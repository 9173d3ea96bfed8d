/- Contracts of Nth and Collect over the iterator of package chunk. -/
import Derived.Test.YtehkmgmmelnceaaCb
import Derived.RegionIn
import Derived.RangeFuncWrites
namespace Go.Proofs.Ytehkmgmmelnceaa
open Go.RowKit Go.Shelf
set_option linter.unusedVariables false
set_option linter.unusedSimpArgs false
attribute [local go_sem] Oper.semAt_some

theorem rank_nat (b x : Nat) (w : World) (h1 : b < 4294967296) :
    Calls Try.prog 25 #[.int .u32 b, .int .i64 x] w fun e w' => e = .returned (.int .i64 (cnt x b)) ∧ ∃ k, w' = w.drewN k := rank_any b x w h1

theorem CBlk.own {W W' : World} {row : Option Nat} {g : Nat} {t : TypeId} {cs : Array Value} (h : CBlk W g t cs) (hg : W.grownBy W' row) (hr : ∀ r, row = some r → ∃ o : Obj, W.heap[r]? = some o ∧ o.isCells = false) : CBlk W' g t cs :=
  (hg.block g h.lt (fun e => by
    obtain ⟨o, ho, hc⟩ := hr g e.symm
    have h' : W.heap[g]? = some (.cells cs t (0, 0)) := h
    rw [h'] at ho
    cases ho
    simp [Obj.isCells] at hc)).trans h
theorem CBlk.far {w : World} {g : Nat} {t : TypeId} {cs : Array Value} (h : CBlk w g t cs) {p : Addr} (hp : g ≠ p.block) (u : Value) : CBlk (w.setCell p u) g t cs := (Below.heap_setCell w p u g hp).trans h
theorem CBlk.set1 {w : World} {g : Nat} {t : TypeId} {u : Value} (h : CBlk w g t #[u]) (v : Value) : CBlk (w.setCell ⟨g, 0, none⟩ v) g t #[v] := by
  unfold CBlk at h ⊢
  simp [World.setCell, Array.getElem?_modify, h]
theorem CBlk.drewN {w : World} {g : Nat} {t : TypeId} {cs : Array Value} (h : CBlk w g t cs) (n : Nat) : CBlk (w.drewN n) g t cs := h
theorem keeps_drewN (W : World) (n : Nat) : KeepsOthers W (W.drewN n) := ⟨Nat.le_refl _, fun _ _ h _ => h⟩
theorem cbelow_drewN {B : Nat} {a w : World} (h : Below B a w) (n : Nat) : Below B a (w.drewN n) := h.trans ⟨rfl, rfl, rfl, Nat.le_refl _, fun _ _ => rfl⟩

/-- what Nth tells -/
def nthV (b : Nat) (k : Int) : Option Nat := if 0 ≤ k then (elsTo b 32)[k.toNat]? else none
theorem cnt_els (b k : Nat) : cnt k b = (elsTo b k).length := by
  induction k with
  | zero => rfl
  | succ k ih =>
    rw [cnt_add k 1 b, ih, elsTo_succ, List.length_append]
    congr 1
    rw [Nat.testBit_eq_decide_div_mod_eq]
    simp only [cnt]
    have : b / 2 ^ k % 2 < 2 := Nat.mod_lt _ (by decide)
    rcases (by omega : b / 2 ^ k % 2 = 0 ∨ b / 2 ^ k % 2 = 1) with h | h <;> simp [h]
theorem els_mem (b k x : Nat) : x ∈ elsTo b k ↔ x < k ∧ b.testBit x = true := by
  unfold elsTo; simp [List.mem_filter]
theorem els_at (b x : Nat) (hx : x < 32) (ht : b.testBit x = true) : (elsTo b 32)[cnt x b]? = some x := by
  obtain ⟨r, hr⟩ := elsTo_prefix b (x + 1) 32 hx
  rw [← hr, elsTo_yes b x ht, cnt_els, List.append_assoc, List.getElem?_append_right (Nat.le_refl _)]
  simp
theorem nthV_of (b x : Nat) (k : Int) (hx : x ∈ elsTo b 32) (hk : (cnt x b : Int) = k) : nthV b k = some x := by
  have hm := (els_mem b 32 x).1 hx
  unfold nthV
  rw [if_pos (by omega), ← hk, Int.toNat_natCast, els_at b x hm.1 hm.2]
theorem nthV_none (b : Nat) (k : Int) (h : ∀ y ∈ elsTo b 32, (cnt y b : Int) ≠ k) : nthV b k = none := by
  unfold nthV
  split
  · rename_i h0
    cases hq : (elsTo b 32)[k.toNat]? with
    | none => rfl
    | some y =>
      exfalso
      have hlt := (List.getElem?_eq_some_iff.1 hq).1
      have hy : y ∈ elsTo b 32 := List.mem_of_getElem? hq
      have hm := (els_mem b 32 y).1 hy
      have hat := els_at b y hm.1 hm.2
      have hnd : (elsTo b 32).Pairwise (· < ·) := List.Pairwise.filter _ List.pairwise_lt_range
      rw [List.pairwise_iff_getElem] at hnd
      have hlt2 := (List.getElem?_eq_some_iff.1 hat).1
      have e1 := (List.getElem?_eq_some_iff.1 hq).2
      have e2 := (List.getElem?_eq_some_iff.1 hat).2
      have hne := h y hy
      rcases (by omega : k.toNat < cnt y b ∨ cnt y b < k.toNat) with hl | hl
      · have := hnd _ _ hlt hlt2 hl
        omega
      · have := hnd _ _ hlt2 hlt hl
        omega
  · rfl

set_option maxRecDepth 100000 in
set_option maxHeartbeats 2000000 in
theorem nth_in (b : Nat) (k : Int) (w : World) (hb : b < 4294967296) :
    CallsIn Fence.wide 5 Try.prog 22 #[.int .u32 b, .int .i64 k] w fun e W' => e = .returned (.tuple #[.int .i64 ((nthV b k).getD 0 : Nat), .bool (nthV b k).isSome]) ∧ Below w.heap.size w W' := by
  refine callsIn_of_wp_marks Try.func22 rfl trivial ?_ rfl
  simp only [Try.ntmps22, List.size_toArray, List.length_cons, List.length_nil, Nat.reduceAdd, Nat.reduceSub, Array.replicate_succ, Array.replicate_zero, List.push_toArray, List.append_toArray, List.nil_append, List.cons_append]
  gi_wp2_with (refine ⟨trivial, ?_⟩; gi_at_call 29; refine (callsIn_wide.2 (all_any b _)).mono ?_; rintro e w' ⟨rfl, rfl⟩)
  have b2 := ((((CBlk.new w 44 #[.int .u32 b]).alloc (.cells #[.int .i64 k] 3)).alloc (.cells #[.int .i64 0] 3)).alloc (.cells #[.bool false] 4)).alloc (.cells #[.int .u32 b] 44)
  have b3 := (((CBlk.new (w.alloc (.cells #[.int .u32 b] 44)) 3 #[.int .i64 k]).alloc (.cells #[.int .i64 0] 3)).alloc (.cells #[.bool false] 4)).alloc (.cells #[.int .u32 b] 44)
  have b4 := ((CBlk.new ((w.alloc (.cells #[.int .u32 b] 44)).alloc (.cells #[.int .i64 k] 3)) 3 #[.int .i64 0]).alloc (.cells #[.bool false] 4)).alloc (.cells #[.int .u32 b] 44)
  have b5 := (CBlk.new (((w.alloc (.cells #[.int .u32 b] 44)).alloc (.cells #[.int .i64 k] 3)).alloc (.cells #[.int .i64 0] 3)) 4 #[.bool false]).alloc (.cells #[.int .u32 b] 44)
  have b6 := CBlk.new ((((w.alloc (.cells #[.int .u32 b] 44)).alloc (.cells #[.int .i64 k] 3)).alloc (.cells #[.int .i64 0] 3)).alloc (.cells #[.bool false] 4)) 44 #[.int .u32 b]
  simp only [World.size_alloc] at b3 b4 b5 b6
  have hB0 : Below w.heap.size w (((((w.alloc (.cells #[.int .u32 b] 44)).alloc (.cells #[.int .i64 k] 3)).alloc (.cells #[.int .i64 0] 3)).alloc (.cells #[.bool false] 4)).alloc (.cells #[.int .u32 b] 44)) :=
    ((((((Below.refl _ w).alloc (Nat.le_refl _) _).alloc (by simp) _).alloc (by simp; omega) _).alloc (by simp; omega) _).alloc (by simp; omega) _)
  have hsz : (((((w.alloc (.cells #[.int .u32 b] 44)).alloc (.cells #[.int .i64 k] 3)).alloc (.cells #[.int .i64 0] 3)).alloc (.cells #[.bool false] 4)).alloc (.cells #[.int .u32 b] 44)).heap.size = w.heap.size + 5 := by simp
  generalize ((((w.alloc (.cells #[.int .u32 b] 44)).alloc (.cells #[.int .i64 k] 3)).alloc (.cells #[.int .i64 0] 3)).alloc (.cells #[.bool false] 4)).alloc (.cells #[.int .u32 b] 44) = W0 at *
  refine wpIn_rangeFunc_ownG rfl (by decide) (gf := 43) (lb := #[.pointer (some ⟨w.heap.size + 1 + 1 + 1 + 1, 0, none⟩)]) rfl trivial (enters_of Try.func43 (by kernel_rfl) rfl)
    (all_stops (5 - 1) (w.heap.size + 1 + 1 + 1 + 1) b (by decide) hb W0 b6) KpB_t (KpB_b b6.lt) (Below.refl _ _) (fun _ => rfl)
    (fun pre W => ((∀ y ∈ pre, (cnt y b : Int) ≠ k) ∧ CBlk W w.heap.size 44 #[.int .u32 b] ∧ CBlk W (w.heap.size + 1) 3 #[.int .i64 k] ∧ CBlk W (w.heap.size + 1 + 1) 3 #[.int .i64 0] ∧ CBlk W (w.heap.size + 1 + 1 + 1) 4 #[.bool false]) ∧ Below w.heap.size w W)
    (fun c pre W => (c = .ret ∧ (∃ (x : Nat) (pre' : List Nat), pre = pre' ++ [x] ∧ (cnt x b : Int) = k ∧ CBlk W (w.heap.size + 1 + 1) 3 #[.int .i64 x] ∧ CBlk W (w.heap.size + 1 + 1 + 1) 4 #[.bool true])) ∧ Below w.heap.size w W)
    (OwnFrom.and (Own.from (fun s X Y row hs hg hr => ⟨hs.1, hs.2.1.own hg hr, hs.2.2.1.own hg hr, hs.2.2.2.1.own hg hr, hs.2.2.2.2.own hg hr⟩) _) (ownFrom_below (Nat.le_refl _) (by omega)))
    (fun c => OwnFrom.and (Own.from (fun s X Y row hs hg hr => by obtain ⟨hc, x, p, h1, h2, h3, h4⟩ := hs; exact ⟨hc, x, p, h1, h2, h3.own hg hr, h4.own hg hr⟩) _) (ownFrom_below (Nat.le_refl _) (by omega)))
    ⟨⟨by simp, b2, b3, b4, b5⟩, hB0⟩
    (fun x => { tmps := #[.int .u32 b, .int .i64 k, .pointer (some ⟨w.heap.size, 0, none⟩), .pointer (some ⟨w.heap.size + 1, 0, none⟩), .pointer (some ⟨w.heap.size + 1 + 1, 0, none⟩), .pointer (some ⟨w.heap.size + 1 + 1 + 1, 0, none⟩), .int .i64 x, .int .u32 b, .func (.func 43) #[] #[.pointer (some ⟨w.heap.size + 1 + 1 + 1 + 1, 0, none⟩)], .int .i64 x, undef, undef, undef, undef, undef, undef], defers := [] }) ?assign ?body ?done ?stop
  case assign =>
    intro l x W K hK
    gi_wp2
    exact hK
  case body =>
    rintro l pre x W ⟨⟨hp, B2, B3, B4, B5⟩, hB⟩ _
    have c2 : W.cell? ⟨w.heap.size, 0, none⟩ = some (.int .u32 b) := B2.cell 0
    have c3 : W.cell? ⟨w.heap.size + 1, 0, none⟩ = some (.int .i64 k) := B3.cell 0
    have c4 : W.cell? ⟨w.heap.size + 1 + 1, 0, none⟩ = some (.int .i64 0) := B4.cell 0
    have c5 : W.cell? ⟨w.heap.size + 1 + 1 + 1, 0, none⟩ = some (.bool false) := B5.cell 0
    have f4 := B4.frozen 0
    have f5 := B5.frozen 0
    have hmx : Try.prog.follows .mixedOrders = true := by kernel_rfl
    by_cases hx : (cnt x b : Int) = k
    · have hxb : ((cnt x b : Int) == k) = true := by rw [beq_iff_eq]; exact hx
      have HX := Lib.hid hx
      clear hx
      gi_wp2
      gi_region_with_o (refine ⟨trivial, ?_⟩; gi_at_call 25; refine (CallsIn.inRound l (callsIn_wide.2 (rank_nat b x _ hb))).mono ?_; rintro e w' ⟨rfl, nq, rfl⟩)
      all_goals gi_wp2
      all_goals exact ⟨(((keeps_drewN W _).trans (KeepsOthers.setCell _ _ _)).trans (KeepsOthers.setCell _ _ _)).from _, ⟨rfl, x, pre, rfl, HX.out, ((B4.drewN _).set1 _).far (p := ⟨w.heap.size + 1 + 1 + 1, 0, none⟩) (by simp) _, ((B5.drewN _).far (p := ⟨w.heap.size + 1 + 1, 0, none⟩) (by simp) _).set1 _⟩, ((cbelow_drewN hB _).setCell (p := ⟨w.heap.size + 1 + 1, 0, none⟩) (by simp; omega) _).setCell (p := ⟨w.heap.size + 1 + 1 + 1, 0, none⟩) (by simp; omega) _⟩
    · have hxb : ((cnt x b : Int) == k) = false := by rw [beq_eq_false_iff_ne]; exact hx
      have HX := Lib.hid hx
      clear hx
      gi_wp2
      gi_region_with_o (refine ⟨trivial, ?_⟩; gi_at_call 25; refine (CallsIn.inRound l (callsIn_wide.2 (rank_nat b x _ hb))).mono ?_; rintro e w' ⟨rfl, nq, rfl⟩)
      all_goals gi_wp2
      all_goals exact ⟨(keeps_drewN W _).from _, rfl, ⟨fun y hy => (List.mem_append.1 hy).elim (hp y) (fun e => by simp at e; subst e; exact HX.out), B2.drewN _, B3.drewN _, B4.drewN _, B5.drewN _⟩, cbelow_drewN hB _⟩
  case done =>
    rintro D ys W hD rfl ⟨⟨hne, B2, B3, B4, B5⟩, hB⟩ hK
    have c4 : W.cell? ⟨w.heap.size + 1 + 1, 0, none⟩ = some (.int .i64 0) := B4.cell 0
    have c5 : W.cell? ⟨w.heap.size + 1 + 1 + 1, 0, none⟩ = some (.bool false) := B5.cell 0
    have f4 := B4.frozen 0
    have f5 := B5.frozen 0
    have HN := Lib.hid (nthV_none b k hne)
    clear hne
    have C4 : CBlk ((W.setCell ⟨w.heap.size + 1 + 1, 0, none⟩ (.int .i64 0)).setCell ⟨w.heap.size + 1 + 1 + 1, 0, none⟩ (.bool false)) (w.heap.size + 1 + 1) 3 #[.int .i64 0] := (B4.set1 _).far (p := ⟨w.heap.size + 1 + 1 + 1, 0, none⟩) (by simp) _
    have C5 : CBlk ((W.setCell ⟨w.heap.size + 1 + 1, 0, none⟩ (.int .i64 0)).setCell ⟨w.heap.size + 1 + 1 + 1, 0, none⟩ (.bool false)) (w.heap.size + 1 + 1 + 1) 4 #[.bool false] := (B5.far (p := ⟨w.heap.size + 1 + 1, 0, none⟩) (by simp) _).set1 _
    have hK' := ((KeepsOthers.setCell W ⟨w.heap.size + 1 + 1, 0, none⟩ (.int .i64 0)).trans (KeepsOthers.setCell _ ⟨w.heap.size + 1 + 1 + 1, 0, none⟩ (.bool false))).same D _ hK rfl
    have D4 := (C4.own (grownBy_putObj' _ D (.deferred none)) (fun r e => by cases e; exact ⟨_, hK', rfl⟩)).cell 0
    have D5 := (C5.own (grownBy_putObj' _ D (.deferred none)) (fun r e => by cases e; exact ⟨_, hK', rfl⟩)).cell 0
    have hB2 := (hB.setCell (p := ⟨w.heap.size + 1 + 1, 0, none⟩) (by simp; omega) (.int .i64 0)).setCell (p := ⟨w.heap.size + 1 + 1 + 1, 0, none⟩) (by simp; omega) (.bool false)
    have hB3 := Lib.hid (hB2.trans (belowK_b (w := w) (Nat.le_refl _) _ D _ (.deferred none) (by omega) hK' rfl rfl))
    have hK2 := Lib.hid hK'
    have G4 := Lib.hid D4
    have G5 := Lib.hid D5
    clear C4 C5 hK' D4 D5 hB2
    gi_wp2
    refine ⟨by simp, .inl ⟨_, _, rfl, run_takeDeferred hK2.out, ?_⟩⟩
    refine ⟨.tuple #[.int .i64 0, .bool false], ?_, by rw [HN.out]; rfl, hB3.out⟩
    simp [results, Try.f22, go_sem, G4.out, G5.out]
  case stop =>
    rintro D c pre W hD hpre ⟨⟨rfl, x, pre', rfl, hx, B4, B5⟩, hB⟩ hK
    have HN := Lib.hid (nthV_of b x k (hpre.subset (by simp)) hx)
    clear hx
    have D4 := (B4.own (grownBy_putObj' _ D (.deferred none)) (fun r e => by cases e; exact ⟨_, hK, rfl⟩)).cell 0
    have D5 := (B5.own (grownBy_putObj' _ D (.deferred none)) (fun r e => by cases e; exact ⟨_, hK, rfl⟩)).cell 0
    have hB3 := Lib.hid (hB.trans (belowK_b (w := w) (Nat.le_refl _) _ D _ (.deferred none) (by omega) hK rfl rfl))
    have G4 := Lib.hid D4
    have G5 := Lib.hid D5
    clear D4 D5
    gi_wp2
    refine ⟨by simp, .inl ⟨_, _, rfl, run_takeDeferred hK, ?_⟩⟩
    refine ⟨.tuple #[.int .i64 x, .bool true], ?_, by rw [HN.out]; rfl, hB3.out⟩
    simp [results, Try.f22, go_sem, G4.out, G5.out]
theorem nth_any (b : Nat) (k : Int) (w : World) (hb : b < 4294967296) :
    Calls Try.prog 22 #[.int .u32 b, .int .i64 k] w fun e W' => e = .returned (.tuple #[.int .i64 ((nthV b k).getD 0 : Nat), .bool (nthV b k).isSome]) ∧ Below w.heap.size w W' :=
  callsIn_wide.1 (nth_in b k w hb)
end Go.Proofs.Ytehkmgmmelnceaa
