/- The numbers of a set, and the contract of the iterator of package chunk: it hands over the numbers of the set in order. -/
import Derived.Test.YtchimfgbdfmegaaGreatGad
import Derived.RangeFuncNested
import Derived.RangeFuncBound
import Derived.RangeFuncCalls
import Derived.RangeFuncLeaves
import Derived.RangeFuncBox
import Derived.Shelf.Abstract
import Derived.Shelf.RegionOpen
import Derived.OwnWalkIn
import Derived.TacticsInMore
import Derived.LoopNIn
import Derived.LoopIn
import Derived.Maps.AppendAt
import Derived.Laws.OwnMore
import Derived.Laws.Rows
import Derived.Test.YtchimfgbdfmegaaGreatGap
import Derived.Test.YtchimfgbdfmegaaGreatGai
import Derived.BigQuiet
import Derived.Deep.RegionHeld3
import Derived.OrdersIn
import Derived.RegionIn
import Derived.RangeFuncWrites
namespace Go.Proofs.YtchimfgbdfmegaaGreat.Its
open Go.RowKit Go.Shelf
set_option linter.unusedVariables false
set_option linter.unusedSimpArgs false
attribute [local go_sem] Oper.semAt_some

/-- block g is just these cells, none of them frozen -/
def CBlk (w : World) (g : Nat) (t : TypeId) (cs : Array Value) : Prop := w.heap[g]? = some (.cells cs t (0, 0))
theorem CBlk.lt {w : World} {g : Nat} {t : TypeId} {cs : Array Value} (h : CBlk w g t cs) : g < w.heap.size := by
  rcases Nat.lt_or_ge g w.heap.size with hlt | hge
  · exact hlt
  · unfold CBlk at h; rw [Array.getElem?_eq_none hge] at h; cases h
theorem CBlk.cell {w : World} {g : Nat} {t : TypeId} {cs : Array Value} (h : CBlk w g t cs) (i : Nat) : w.cell? ⟨g, i, none⟩ = cs[i]? := cell_of_row w g i cs t (0, 0) h
theorem CBlk.frozen {w : World} {g : Nat} {t : TypeId} {cs : Array Value} (h : CBlk w g t cs) (i : Nat) : w.frozen? ⟨g, i, none⟩ = false := by
  unfold CBlk at h
  simp [World.frozen?, h]
theorem CBlk.new (w : World) (t : TypeId) (cs : Array Value) : CBlk (w.alloc (.cells cs t)) w.heap.size t cs := heap_alloc_new w _
theorem CBlk.alloc {w : World} {g : Nat} {t : TypeId} {cs : Array Value} (h : CBlk w g t cs) (o : Obj) : CBlk (w.alloc o) g t cs := (Below.heap_alloc w o g h.lt).trans h
theorem CBlk.below {w w' : World} {g : Nat} {t : TypeId} {cs : Array Value} {B : Nat} (h : CBlk w g t cs) (hb : Below B w w') (hg : g < B) : CBlk w' g t cs := (hb.block g hg).trans h

/-- the numbers of a set that are less than k, rising -/
def elsTo (b k : Nat) : List Nat := (List.range k).filter fun i => b.testBit i
theorem elsTo_succ (b k : Nat) : elsTo b (k + 1) = elsTo b k ++ if b.testBit k then [k] else [] := by
  unfold elsTo
  rw [List.range_succ, List.filter_append]
  cases h : b.testBit k <;> simp [h]
theorem elsTo_yes (b k : Nat) (h : b.testBit k = true) : elsTo b (k + 1) = elsTo b k ++ [k] := by rw [elsTo_succ, if_pos h]
theorem elsTo_no (b k : Nat) (h : b.testBit k = false) : elsTo b (k + 1) = elsTo b k := by rw [elsTo_succ, h]; simp
theorem elsTo_prefix (b k m : Nat) (h : k ≤ m) : elsTo b k <+: elsTo b m := by
  induction m with
  | zero => obtain rfl : k = 0 := by omega
            exact List.prefix_refl _
  | succ m ih =>
    by_cases e : k = m + 1
    · subst e; exact List.prefix_refl _
    · refine List.IsPrefix.trans (ih (by omega)) ?_
      rw [elsTo_succ]; exact List.prefix_append _ _
theorem elsTo_len (b k m : Nat) (h : k < m) (ht : b.testBit k = true) : (elsTo b k).length < (elsTo b m).length := by
  have h1 := (elsTo_prefix b (k + 1) m h).length_le
  rw [elsTo_yes b k ht] at h1
  simp at h1
  omega
theorem has_bit (b k : Nat) (hk : k < 32) : (b &&& onl k != 0) = b.testBit k := by
  have e : onl (k : Int) = 2 ^ k := by simp [onl]; omega
  rw [e, Nat.testBit_eq_decide_div_mod_eq]
  have h1 : b &&& 2 ^ k = if b.testBit k then 2 ^ k else 0 := by
    apply Nat.eq_of_testBit_eq
    intro i
    rw [Nat.testBit_and, Nat.testBit_two_pow]
    by_cases hi : k = i
    · subst hi
      cases h : b.testBit k <;> simp [h]
    · cases h : b.testBit k <;> simp [hi]
  rw [h1, Nat.testBit_eq_decide_div_mod_eq]
  have hp : 2 ^ k ≠ 0 := Nat.ne_of_gt (Nat.two_pow_pos k)
  by_cases hd : b / 2 ^ k % 2 = 1 <;> simp [hd, hp]
theorem has_yes (b k : Nat) (w : World) (h1 : b < 4294967296) (hk : k < 32) (ht : b.testBit k = true) :
    Calls Tryz.prog 72 #[.int .u32 b, .int .i64 k] w fun e w' => e = .returned (.bool true) ∧ w = w' := by
  have h := has_any b k w h1
  rw [has_bit b k hk, ht] at h
  exact h
theorem has_no (b k : Nat) (w : World) (h1 : b < 4294967296) (hk : k < 32) (ht : b.testBit k = false) :
    Calls Tryz.prog 72 #[.int .u32 b, .int .i64 k] w fun e w' => e = .returned (.bool false) ∧ w = w' := by
  have h := has_any b k w h1
  rw [has_bit b k hk, ht] at h
  exact h

/-- what a round must keep: the block of the set that the iterator reads -/
def KpB (B : Nat) (W W' : World) : Prop := W'.heap[B]? = W.heap[B]?
theorem KpB_t {B : Nat} {X Y Z : World} (h : KpB B X Y) (k : KpB B Y Z) : KpB B X Z := Eq.trans k h
theorem KpB_b {B : Nat} {w : World} (hB : B < w.heap.size) (W : World) (l : Nat) (o o' : Obj) (hl : w.heap.size ≤ l) (h : W.heap[l]? = some o) (_ : o.isCells = false) (_ : o.isWalk = false) : KpB B W (W.putObj l o') :=
  World.putObj_heap_other (by omega)

set_option maxRecDepth 100000 in
set_option maxHeartbeats 1000000 in
theorem all1_in (n l Bn b : Nat) (hb : b < 4294967296) (J Jx : List Nat → World → Prop)
    (hY : ∀ pre (x : Nat) W, J pre W → pre.length < (elsTo b 32).length → YieldAt Fence.wide (n - 1) Tryz.prog l #[.int .i64 x] W fun e W' =>
      (e = .returned (.bool true) ∧ J (pre ++ [x]) W' ∧ KpB Bn W W') ∨ (e = .returned (.bool false) ∧ Jx (pre ++ [x]) W'))
    (hn : 1 ≤ n) (W : World) (hBn : CBlk W Bn 95 #[.int .u32 b]) (h0 : J [] W) :
    CallsIn Fence.wide n Tryz.prog 115 #[.func (.yield l) #[] #[], .pointer (some ⟨Bn, 0, none⟩)] W fun e W' => (∃ v, e = .returned v) ∧
      ((∃ ys, ys = elsTo b 32 ∧ J ys W') ∨ (∃ pre, pre <+: elsTo b 32 ∧ Jx pre W')) := by
  refine callsIn_of_wp Tryz.func115 rfl trivial ?_ rfl
  simp only [Tryz.ntmps115, List.size_toArray, List.length_cons, List.length_nil, Nat.reduceAdd, Nat.reduceSub, Array.replicate_succ, Array.replicate_zero, List.push_toArray, List.append_toArray, List.nil_append, List.cons_append]
  gi_wp2
  gi_loopw [4] (fun i wr => ∃ k : Nat, k ≤ 32 ∧ i = .int .i64 k ∧ J (elsTo b k) wr ∧ CBlk wr Bn 95 #[.int .u32 b]) (fun i wr => 32 - (intOf i).toNat)
  case atStart => exact ⟨0, by omega, rfl, h0, hBn⟩
  case round =>
    obtain ⟨k, hk, rfl, hJ, hB⟩ := hrel
    have c0 := hB.cell 0
    by_cases hlt : k < 32
    · have d1 : decide ((k : Int) < 32) = true := by simp; omega
      cases ht : b.testBit k
      · have ht' := Lib.hid ht
        clear ht
        gi_wp2_with (refine ⟨trivial, ?_⟩; gi_at_call 72; refine (callsIn_wide.2 (has_no b k _ hb hlt ht'.out)).mono ?_; rintro e w' ⟨rfl, rfl⟩)
        refine ⟨fun _ h => (by cases h), ?_⟩
        gi_wp2
        go_roundw
        case rel => exact ⟨k + 1, by omega, by go_num, by rw [elsTo_no b k ht'.out]; exact hJ, hB⟩
        case measure => simp [intOf]; omega
      · have ht' := Lib.hid ht
        clear ht
        obtain ⟨fn, tmps, assign, body, hy, hR⟩ := hY (elsTo b k) k wr hJ (elsTo_len b k 32 hlt ht'.out)
        gi_wp2_with (refine ⟨trivial, ?_⟩; gi_at_call 72; refine (callsIn_wide.2 (has_yes b k _ hb hlt ht'.out)).mono ?_; rintro e w' ⟨rfl, rfl⟩)
        refine hR.mono ?_
        rintro e W3 (⟨rfl, hJ3, hk3⟩ | ⟨rfl, hJx3⟩)
        · gi_wp2
          go_roundw
          case rel => exact ⟨k + 1, by omega, by go_num, by rw [elsTo_yes b k ht'.out]; exact hJ3, Eq.trans hk3 hB⟩
          case measure => simp [intOf]; omega
        · gi_wp2
          refine bodyPost_ret (results_none rfl _ _ _) rfl ?_
          exact ⟨⟨_, rfl⟩, .inr ⟨elsTo b k ++ [k], by rw [← elsTo_yes b k ht'.out]; exact elsTo_prefix b (k + 1) 32 hlt, hJx3⟩⟩
    · obtain rfl : k = 32 := by omega
      gi_wp2
      go_end0
      exact ⟨⟨_, rfl⟩, .inl ⟨_, rfl, hJ⟩⟩

theorem all_stops (n Bn b : Nat) (hn : 1 ≤ n) (hb : b < 4294967296) (w : World) (hB : CBlk w Bn 95 #[.int .u32 b]) :
    SeqStopsK Fence.wide n Tryz.prog 115 #[.pointer (some ⟨Bn, 0, none⟩)] (fun x : Nat => #[Value.int .i64 x]) (KpB Bn) (fun ys => ys = elsTo b 32) (fun pre => pre <+: elsTo b 32) (elsTo b 32).length w :=
  fun l J Jx W hW _ _ hY h0 => all1_in n l Bn b hb J Jx hY hn W (hB.below hW hB.lt) h0

set_option maxHeartbeats 1000000 in
theorem all_any (b : Nat) (w : World) :
    Calls Tryz.prog 97 #[.int .u32 b] w fun e w' => e = .returned (.func (.func 115) #[] #[.pointer (some ⟨w.heap.size, 0, none⟩)]) ∧ w.alloc (.cells #[.int .u32 b] 95) = w' := by
  go_enter Tryz.func97, Tryz.ntmps97
  go_wp2
  go_ret
  exact ⟨rfl, rfl⟩
end Go.Proofs.YtchimfgbdfmegaaGreat.Its
/- Whether a node is right: its own pairs in a bucket; alone. -/
namespace Go.Proofs.YtchimfgbdfmegaaGreat
open Go.RowKit Go.Lib
set_option linter.unusedVariables false
set_option linter.unusedSimpArgs false
set_option maxRecDepth 100000
attribute [local irreducible] cnt
/-- the hasher as a value -/
def hasherV (k0 k1 m : Int) : Value := .agg #[.int .u64 k0, .int .u64 k1, .int .u64 m]
theorem alone_any (base b : Nat) (o : Value) (bk : Bool) (d nn : Nat) (pv kv : Value) (xs : List Pr) (ks : List Nat) (w : World) (h : NdV base w b o bk d nn pv kv xs ks) (hx : xs.length ≤ 800) (hk : ks.length ≤ 32) (hn : nn < 4294967296) :
    Calls Tryz.prog 64 #[at0 b] w fun e w' => e = .returned (.bool (decide (nn = 0 ∧ xs.length + ks.length < 2))) ∧ Below w.heap.size w w' := by
  have kn := nodes_any _ _ _ _ _ _ _ _ _ _ w h
  have kl := len_any _ _ _ _ _ _ _ _ _ _ w h hx (by omega)
  unfold at0 at *
  clear h
  obtain ⟨r, hr⟩ : ∃ r, r = decide (nn = 0 ∧ xs.length + ks.length < 2) := ⟨_, rfl⟩
  rw [← hr]
  go_enter Tryz.func64, Tryz.ntmps64
  by_cases h0 : nn = 0
  · subst h0
    by_cases h2 : xs.length + ks.length < 2
    · obtain rfl : r = true := by rw [hr]; simp; exact h2
      have L1 : ((xs.length + ks.length : Nat) : Int) < 2 := by omega
      clear h2 hr
      generalize xs.length + ks.length = n at *
      go_wp2_with fail
      refine kn.mono ?_
      rintro e w' ⟨rfl, rfl⟩
      go_wp2_with fail
      refine kl.mono ?_
      rintro e w' ⟨rfl, k, rfl⟩
      go_wp2_with fail
      go_ret
      exact ⟨rfl, below_drewK w k⟩
    · obtain rfl : r = false := by rw [hr]; simp; omega
      have L1 : ¬ ((xs.length + ks.length : Nat) : Int) < 2 := by omega
      clear h2 hr
      generalize xs.length + ks.length = n at *
      go_wp2_with fail
      refine kn.mono ?_
      rintro e w' ⟨rfl, rfl⟩
      go_wp2_with fail
      refine kl.mono ?_
      rintro e w' ⟨rfl, k, rfl⟩
      have L2 : decide ((n : Int) < 2) = false := by simp; omega
      go_wp2_with fail
      go_ret
      exact ⟨rfl, below_drewK w k⟩
  · obtain rfl : r = false := by rw [hr]; simp; intro h; exact (h0 h).elim
    have L1 : ¬ ((nn : Nat) : Int) = 0 := by omega
    clear h0 hr
    go_wp2_with fail
    refine kn.mono ?_
    rintro e w' ⟨rfl, rfl⟩
    go_wp2_with fail
    go_ret
    exact ⟨rfl, Below.refl _ _⟩
theorem keepS {N1 N2 N3 : Nat} {k0 k1 m x y : Value} {w w' : World} (h : w.cell? ⟨N1, 0, none⟩ = some k0 ∧ w.cell? ⟨N1, 1, none⟩ = some k1 ∧ w.cell? ⟨N1, 2, none⟩ = some m ∧ w.cell? ⟨N2, 0, none⟩ = some x ∧ w.cell? ⟨N3, 0, none⟩ = some y) (hB : Below w.heap.size w w') :
    w'.cell? ⟨N1, 0, none⟩ = some k0 ∧ w'.cell? ⟨N1, 1, none⟩ = some k1 ∧ w'.cell? ⟨N1, 2, none⟩ = some m ∧ w'.cell? ⟨N2, 0, none⟩ = some x ∧ w'.cell? ⟨N3, 0, none⟩ = some y := by
  have f : ∀ a v, w.cell? a = some v → w'.cell? a = some v := fun a v e => (hB.cell (World.block_lt_of_cell? w _ e)).trans e
  obtain ⟨a, b, c, d, e⟩ := h
  exact ⟨f _ _ a, f _ _ b, f _ _ c, f _ _ d, f _ _ e⟩
set_option maxHeartbeats 8000000 in
theorem rightPairs_bucket (k0 k1 m : Int) (nb b : Nat) (ow pv kv : Value) (L : List Pr) (p : List Nat) (v : Value) (w : World) (hN : NdV nb w b ow true 0 0 pv kv L []) (hL : L.length ≤ 800) (hK : ∀ q ∈ L, q.1.size ≤ 1000) (h0 : U64 k0) (h1 : U64 k1)
    (ho : OwnI 0 w v p) (hp : p.length ≤ 13) :
    Calls Tryz.prog 65 #[hasherV k0 k1 m, at0 b, v] w fun e w' => e = .returned (.bool (L.all fun q => leadsB (hz k0 k1 m q.1) p)) ∧ Below w.heap.size w w' := by
  obtain ⟨A, c, rfl⟩ := own_formN ho
  obtain ⟨r, hr⟩ : ∃ r, r = L.all fun q => leadsB (hz k0 k1 m q.1) p := ⟨_, rfl⟩
  rw [← hr]
  have HR := Lib.hid hr
  have HK := Lib.hid hK
  obtain ⟨n, hn⟩ : ∃ n, n = p.length := ⟨_, rfl⟩
  rw [← hn] at hp ho ⊢
  have HN := Lib.hid hn
  clear hK hr hn
  have b3 := (((Blk.new w 26 #[.int .u64 k0, .int .u64 k1, .int .u64 m]).alloc (.cells #[.pointer (some ⟨b, 0, none⟩)] 29)).alloc (.cells #[.slice A n c] 124)).alloc (.cells #[.bool false] 4)
  have b4 := ((Blk.new (w.alloc (.cells #[.int .u64 k0, .int .u64 k1, .int .u64 m] 26)) 29 #[.pointer (some ⟨b, 0, none⟩)]).alloc (.cells #[.slice A n c] 124)).alloc (.cells #[.bool false] 4)
  have b5 := (Blk.new ((w.alloc (.cells #[.int .u64 k0, .int .u64 k1, .int .u64 m] 26)).alloc (.cells #[.pointer (some ⟨b, 0, none⟩)] 29)) 124 #[.slice A n c]).alloc (.cells #[.bool false] 4)
  have b6 := Blk.new (((w.alloc (.cells #[.int .u64 k0, .int .u64 k1, .int .u64 m] 26)).alloc (.cells #[.pointer (some ⟨b, 0, none⟩)] 29)).alloc (.cells #[.slice A n c] 124)) 4 #[.bool false]
  have hB : Below w.heap.size w ((((w.alloc (.cells #[.int .u64 k0, .int .u64 k1, .int .u64 m] 26)).alloc (.cells #[.pointer (some ⟨b, 0, none⟩)] 29)).alloc (.cells #[.slice A n c] 124)).alloc (.cells #[.bool false] 4)) :=
    ((((Below.refl _ w).alloc (Nat.le_refl _) _).alloc (by simp) _).alloc (by simp; omega) _).alloc (by simp; omega) _
  simp only [World.size_alloc] at b3 b4 b5 b6
  unfold hasherV at0
  go_enter Tryz.func65, Tryz.ntmps65
  go_wp2_with fail
  generalize (((w.alloc (.cells #[.int .u64 k0, .int .u64 k1, .int .u64 m] 26)).alloc (.cells #[.pointer (some ⟨b, 0, none⟩)] 29)).alloc (.cells #[.slice A n c] 124)).alloc (.cells #[.bool false] 4) = W0 at *
  have ho := ho.below hB
  have hN := hN.below hB
  have kb := isBucket_any _ _ _ _ _ _ _ _ _ _ W0 hN
  have kp := pairs_any _ _ _ _ _ _ _ _ _ _ W0 hN hL
  unfold at0 at kb kp
  have h36 : w.heap.size ≤ w.heap.size + 1 + 1 + 1 := by omega
  generalize w.heap.size + 1 + 1 + 1 = N6 at *
  generalize w.heap.size + 1 + 1 = N5 at *
  generalize w.heap.size + 1 = N4 at *
  generalize hz0 : w.heap.size = N3 at *
  have y4 := b4.cell 0
  refine kb.mono ?_
  rintro e w' ⟨rfl, rfl⟩
  go_wp2_with fail
  refine kp.mono ?_
  rintro e w2 ⟨vx, rfl, hOx, hB2⟩
  obtain ⟨Ax, cx, rfl, hRx, -⟩ := hOx.rd
  have H3 := Lib.hid (b3.below hB2)
  have H5 := Lib.hid (b5.below hB2)
  have H6 := Lib.hid (b6.below hB2)
  have HO := Lib.hid (ho.below hB2)
  have HX := Lib.hid hOx
  have HB := Lib.hid (hB.trans (hB2.mono (by rw [← hz0]; exact hB.size)))
  clear y4 kb kp b3 b5 b6 ho hOx hRx hN hB2 hB b4
  go_wp2_with fail
  go_loopw [17] (fun vi wr => ∃ j : Nat, j ≤ L.length ∧ vi = .int .i64 j ∧ Hid (∀ q ∈ L.take j, leadsB (hz k0 k1 m q.1) p = true) ∧ Below w2.heap.size w2 wr) (fun vi wr => L.length - (intOf vi).toNat)
  case atStart => exact ⟨0, by omega, rfl, Lib.hid (by simp), Below.refl _ _⟩
  case round =>
    obtain ⟨j, hj, rfl, hE, hB⟩ := hrel
    by_cases hlt : j < L.length
    · have hOx := HX.out.below hB
      obtain ⟨A', c', e', hRx, -⟩ := hOx.rd
      simp only [Value.slice.injEq] at e'
      obtain ⟨rfl, -, rfl⟩ := e'
      obtain ⟨g, off, rfl, c0, c1⟩ := hRx j L[j] (List.getElem?_eq_getElem hlt)
      have hq := HK.out L[j] (List.getElem_mem hlt)
      have hmem : L[j] ∈ L := List.getElem_mem hlt
      have HT : Hid (L.take (j + 1) = L.take j ++ [L[j]]) := Lib.hid (by rw [List.take_add_one, List.getElem?_eq_getElem hlt]; rfl)
      have HM := Lib.hid hmem
      clear hmem hOx hRx
      generalize L[j] = q at *
      have L1' : (j : Int) < (L.length : Int) := by omega
      have L2' : IntKind.i64.wrap ((j : Int) + 1) = ((j + 1 : Nat) : Int) := by rw [IntWalk.i64_in _ (by omega)]; omega
      go_upto_region 5 with (fail)
      have hBl := (Below.refl _ wr).alloc (Nat.le_refl _) (.cells #[.string q.1, .string q.2] 52)
      have hP := (Blk.new wr 52 #[.string q.1, .string q.2])
      have hB := hB.trans (hBl.mono hB.size)
      clear hBl c0 c1
      generalize wr.alloc (.cells #[.string q.1, .string q.2] 52) = W3 at *
      generalize wr.heap.size = N8 at *
      have hdr : Below W3.heap.size W3 W3.drew := (Below.refl _ W3).drew
      have hP := hP.below hdr
      have hB := hB.drew
      have h3 := H3.out.below hB
      have h5 := H5.out.below hB
      have a0 := h3.cell 0
      have a1 := h3.cell 1
      have a2 := h3.cell 2
      have a3 := hP.cell 0
      have a5 := h5.cell 0
      have hoD := HO.out.below hB
      have hhz := (hz_int k0 k1 m q.1).2
      have kh := fun w' => hash_hz k0 k1 m q.1 w' h0 h1 hq
      have kl := fun w' (h : OwnI 0 w' (.slice A n c) p) => leads_any 0 _ p (hz k0 k1 m q.1) w' h (by rw [← HN.out]; exact hp) hhz
      have HQ : Hid (leadsB (hz k0 k1 m q.1) p = leadsB (hz k0 k1 m q.1) p) := Lib.hid rfl
      clear hdr h3 h5 hP
      cases hh : leadsB (hz k0 k1 m q.1) p
      · rw [hh] at kl
        obtain rfl : r = false := by
          rw [HR.out, List.all_eq_false]
          exact ⟨q, HM.out, by rw [hh]; simp⟩
        clear hh
        generalize hz k0 k1 m q.1 = y at *
        go_region_held3 (fun w' : World => w'.cell? ⟨N3, 0, none⟩ = some (.int .u64 k0) ∧ w'.cell? ⟨N3, 1, none⟩ = some (.int .u64 k1) ∧ w'.cell? ⟨N3, 2, none⟩ = some (.int .u64 m) ∧ w'.cell? ⟨N8, 0, none⟩ = some (.string q.1) ∧ w'.cell? ⟨N5, 0, none⟩ = some (.slice A n c)) (first | exact ⟨a0, a1, a2, a3, a5⟩ | exact keepS (by assumption) hBA | go_keep) (first
          | (go_at_call 96; refine (kl _ hoD).mono ?_; rintro e wC ⟨rfl, rfl⟩)
          | (go_at_call 49; refine (kh _).mono ?_; rintro e wA ⟨rfl, hBA⟩; replace hoD := hoD.below hBA; replace hB := hB.trans (hBA.mono hB.size)))
        have y6 := (H6.out.below hB).cell 0
        have f6 := (H6.out.below hB).frozen 0
        have g6 : (wA.setCell ⟨N6, 0, none⟩ (.bool false)).cell? ⟨N6, 0, none⟩ = some (.bool false) := ((H6.out.below hB).set_ 0 (.bool false)).cell 0
        go_wp2_with fail
        refine bodyPost_ret (v := .bool false) (by simp [results, Tryz.f65, go_sem, g6]) rfl ?_
        exact ⟨rfl, by rw [hz0]; exact (HB.out.trans (hB.mono (by rw [← hz0]; exact (HB.out.size)))).setCell (p := ⟨N6, 0, none⟩) h36 _⟩
      · rw [hh] at kl
        have hE2 : Hid (∀ q ∈ L.take (j + 1), leadsB (hz k0 k1 m q.1) p = true) := Lib.hid (by
          intro q' hq'
          rw [HT.out, List.mem_append] at hq'
          rcases hq' with h | h
          · exact hE.out q' h
          · rw [List.mem_singleton.1 h]; exact hh)
        clear hh
        generalize hz k0 k1 m q.1 = y at *
        go_region_held3 (fun w' : World => w'.cell? ⟨N3, 0, none⟩ = some (.int .u64 k0) ∧ w'.cell? ⟨N3, 1, none⟩ = some (.int .u64 k1) ∧ w'.cell? ⟨N3, 2, none⟩ = some (.int .u64 m) ∧ w'.cell? ⟨N8, 0, none⟩ = some (.string q.1) ∧ w'.cell? ⟨N5, 0, none⟩ = some (.slice A n c)) (first | exact ⟨a0, a1, a2, a3, a5⟩ | exact keepS (by assumption) hBA | go_keep) (first
          | (go_at_call 96; refine (kl _ hoD).mono ?_; rintro e wC ⟨rfl, rfl⟩)
          | (go_at_call 49; refine (kh _).mono ?_; rintro e wA ⟨rfl, hBA⟩; replace hoD := hoD.below hBA; replace hB := hB.trans (hBA.mono hB.size)))
        go_wp2_with fail
        exact ⟨⟨j + 1, by omega, by go_num, hE2, hB⟩, by simp [intOf]; omega⟩
    · obtain rfl : j = L.length := by omega
      obtain rfl : r = true := by
        rw [HR.out, List.all_eq_true]
        have h := hE.out
        rwa [List.take_length] at h
      have y6 := (H6.out.below hB).cell 0
      have f6 := (H6.out.below hB).frozen 0
      have g6 : (wr.setCell ⟨N6, 0, none⟩ (.bool true)).cell? ⟨N6, 0, none⟩ = some (.bool true) := ((H6.out.below hB).set_ 0 (.bool true)).cell 0
      go_wp2_with fail
      refine bodyPost_ret (v := .bool true) (by simp [results, Tryz.f65, go_sem, g6]) rfl ?_
      exact ⟨rfl, by rw [hz0]; exact (HB.out.trans (hB.mono (by rw [← hz0]; exact (HB.out.size)))).setCell (p := ⟨N6, 0, none⟩) h36 _⟩
end Go.Proofs.YtchimfgbdfmegaaGreat
/- A drawn region within a round of a range over a function is walked as everywhere. -/
namespace Go.Proofs.YtchimfgbdfmegaaGreat
open Go.RowKit Go.Lib
set_option linter.unusedVariables false
section
variable {P : Program} {ops : Array Oper} {Q : Exit → Act → World → Prop} {md : Region.Mode} {S : World → Prop}
theorem wpOpIn_of (l n : Nat) (hd : ∀ (i : Nat) (o : Oper), ops[i]? = some o → ∀ c, o.op ≠ .defer c) (hL : ¬ LetsOut Q) {i : Nat} {K : Act → World → Prop} {a : Act} {w : World} (h : wpOp P ops Q i K a w) : wpOpIn (Fence.wide.inRound l) n P ops Q i K a w := by
  unfold wpOp at h
  unfold wpOpIn
  cases ho : ops[i]? with
  | none => simpa [ho] using h
  | some o =>
    simp only [ho] at h ⊢
    split
    · rename_i hw
      simp only [hw, if_true] at h
      rcases h with h | h
      · refine ⟨fun _ _ => trivial, ?_⟩
        rw [Oper.semAt_eq _ _ _ (hd i o ho)]
        unfold Oper.wp at h
        generalize (execOp a.eval o).run P w = r at *
        cases r with
        | ok x w' =>
          cases x <;> simp only [Oper.upon, Oper.uponIn] at h ⊢
          all_goals first
            | exact h
            | exact ⟨fun e => by simp [Fence.inRound, Fence.wide] at e, CallsIn.inRound l (callsIn_wide.2 h)⟩
            | exact ⟨fun e => by simp [Fence.inRound, Fence.wide] at e, fun c cs _ => by obtain ⟨v, w1, r, s⟩ := h c cs; exact ⟨v, w1, r, stepsIn_wide.2 s⟩⟩
            | exact h.elim
        | halt x w' => cases x <;> simp only [Oper.upon, Oper.uponIn] at h ⊢ <;> exact h
      · exact (hL h.2).elim
    · rename_i hw
      simp only [hw] at h
      exact ⟨fun _ _ => trivial, h⟩
theorem wpAnyIn_of (l n : Nat) (hd : ∀ (i : Nat) (o : Oper), ops[i]? = some o → ∀ c, o.op ≠ .defer c) (hL : ¬ LetsOut Q) : ∀ (fuel : Nat) (listed : Array Bool) (a : Act) (w : World), wpAny P md ops Q fuel listed a w → wpAnyIn (Fence.wide.inRound l) n P md ops Q fuel listed a w
  | 0, _, _, _, h => h
  | fuel + 1, _, _, _, h => ⟨h.1, fun i hi => wpOpIn_mono (fun a' w' h' => wpAnyIn_of l n hd hL fuel _ a' w' h') (wpOpIn_of l n hd hL (h.2 i hi))⟩
/-- the region in a round, from its cells -/
theorem wpIn_region_held (l n : Nat) {id : Nat} {a : Act} {w : World} (hm : P.follows .mixedOrders = true) (hd : ∀ (i : Nat) (o : Oper), ops[i]? = some o → ∀ c, o.op ≠ .defer c) (hL : ¬ LetsOut Q) (hS : S w.drew)
    (h : S w.drew → wpAnyH P .any ops Q S ops.size (Array.replicate ops.size false) a w.drew) : (Code.region id ops true).wpIn (Fence.wide.inRound l) n P Q a w :=
  wpIn_region_any hm (wpAnyIn_of l n hd hL _ _ _ _ (wpAny_of_held _ _ _ _ (h hS)))
end
end Go.Proofs.YtchimfgbdfmegaaGreat
/- The iterator of package chunk hands over numbers of the set. -/
namespace Go.Proofs.YtchimfgbdfmegaaGreat
open Go.RowKit Go.Lib Go.Shelf
set_option linter.unusedVariables false
set_option linter.unusedSimpArgs false
set_option maxRecDepth 100000
attribute [local go_sem] Oper.semAt_some
namespace Its
/-- a number of the set -/
abbrev El (b : Nat) := { i : Nat // i < 32 ∧ b.testBit i = true }
def elsS (b k : Nat) : List (El b) := (List.range k).filterMap fun i => if h : i < 32 ∧ b.testBit i = true then some ⟨i, h⟩ else none
theorem elsS_succ (b k : Nat) : elsS b (k + 1) = elsS b k ++ (if h : k < 32 ∧ b.testBit k = true then [⟨k, h⟩] else []) := by
  unfold elsS
  rw [List.range_succ, List.filterMap_append]
  congr 1
  simp only [List.filterMap_cons, List.filterMap_nil]
  by_cases h : k < 32 ∧ b.testBit k = true
  · simp only [dif_pos h]
  · simp only [dif_neg h]
theorem elsS_yes (b k : Nat) (hk : k < 32) (h : b.testBit k = true) : elsS b (k + 1) = elsS b k ++ [⟨k, hk, h⟩] := by rw [elsS_succ, dif_pos ⟨hk, h⟩]
theorem elsS_no (b k : Nat) (h : b.testBit k = false) : elsS b (k + 1) = elsS b k := by rw [elsS_succ, dif_neg (by simp [h])]; simp
theorem elsS_prefix (b k m : Nat) (h : k ≤ m) : elsS b k <+: elsS b m := by
  induction m with
  | zero => obtain rfl : k = 0 := by omega
            exact List.prefix_refl _
  | succ m ih =>
    by_cases e : k = m + 1
    · subst e; exact List.prefix_refl _
    · refine List.IsPrefix.trans (ih (by omega)) ?_
      rw [elsS_succ]; exact List.prefix_append _ _
theorem elsS_len (b k m : Nat) (h : k < m) (hk : k < 32) (ht : b.testBit k = true) : (elsS b k).length < (elsS b m).length := by
  have h1 := (elsS_prefix b (k + 1) m h).length_le
  rw [elsS_yes b k hk ht] at h1
  simp at h1
  omega
theorem elsS_mem (b : Nat) (x : El b) : x ∈ elsS b 32 := by
  unfold elsS
  rw [List.mem_filterMap]
  exact ⟨x.1, List.mem_range.2 x.2.1, by rw [dif_pos x.2]⟩
set_option maxRecDepth 100000 in
set_option maxHeartbeats 1000000 in
theorem all2_in (n l Bn b : Nat) (hb : b < 4294967296) (J Jx : List (El b) → World → Prop)
    (hY : ∀ pre (x : El b) W, J pre W → pre.length < (elsS b 32).length → YieldAt Fence.wide (n - 1) Tryz.prog l #[.int .i64 x.1] W fun e W' =>
      (e = .returned (.bool true) ∧ J (pre ++ [x]) W' ∧ KpB Bn W W') ∨ (e = .returned (.bool false) ∧ Jx (pre ++ [x]) W'))
    (hn : 1 ≤ n) (W : World) (hBn : CBlk W Bn 95 #[.int .u32 b]) (h0 : J [] W) :
    CallsIn Fence.wide n Tryz.prog 115 #[.func (.yield l) #[] #[], .pointer (some ⟨Bn, 0, none⟩)] W fun e W' => (∃ v, e = .returned v) ∧
      ((∃ ys, ys = elsS b 32 ∧ J ys W') ∨ (∃ pre, pre <+: elsS b 32 ∧ Jx pre W')) := by
  refine callsIn_of_wp Tryz.func115 rfl trivial ?_ rfl
  simp only [Tryz.ntmps115, List.size_toArray, List.length_cons, List.length_nil, Nat.reduceAdd, Nat.reduceSub, Array.replicate_succ, Array.replicate_zero, List.push_toArray, List.append_toArray, List.nil_append, List.cons_append]
  gi_wp2
  gi_loopw [4] (fun i wr => ∃ k : Nat, k ≤ 32 ∧ i = .int .i64 k ∧ J (elsS b k) wr ∧ CBlk wr Bn 95 #[.int .u32 b]) (fun i wr => 32 - (intOf i).toNat)
  case atStart => exact ⟨0, by omega, rfl, h0, hBn⟩
  case round =>
    obtain ⟨k, hk, rfl, hJ, hB⟩ := hrel
    have c0 := hB.cell 0
    by_cases hlt : k < 32
    · have d1 : decide ((k : Int) < 32) = true := by simp; omega
      cases ht : b.testBit k
      · have ht' := Lib.hid ht
        clear ht
        gi_wp2_with (refine ⟨trivial, ?_⟩; gi_at_call 72; refine (callsIn_wide.2 (has_no b k _ hb hlt ht'.out)).mono ?_; rintro e w' ⟨rfl, rfl⟩)
        refine ⟨fun _ h => (by cases h), ?_⟩
        gi_wp2
        go_roundw
        case rel => exact ⟨k + 1, by omega, by go_num, by rw [elsS_no b k ht'.out]; exact hJ, hB⟩
        case measure => simp [intOf]; omega
      · have ht' := Lib.hid ht
        clear ht
        obtain ⟨fn, tmps, assign, body, hy, hR⟩ := hY (elsS b k) ⟨k, hlt, ht'.out⟩ wr hJ (elsS_len b k 32 hlt hlt ht'.out)
        gi_wp2_with (refine ⟨trivial, ?_⟩; gi_at_call 72; refine (callsIn_wide.2 (has_yes b k _ hb hlt ht'.out)).mono ?_; rintro e w' ⟨rfl, rfl⟩)
        refine hR.mono ?_
        rintro e W3 (⟨rfl, hJ3, hk3⟩ | ⟨rfl, hJx3⟩)
        · gi_wp2
          go_roundw
          case rel => exact ⟨k + 1, by omega, by go_num, by rw [elsS_yes b k hlt ht'.out]; exact hJ3, Eq.trans hk3 hB⟩
          case measure => simp [intOf]; omega
        · gi_wp2
          refine bodyPost_ret (results_none rfl _ _ _) rfl ?_
          exact ⟨⟨_, rfl⟩, .inr ⟨elsS b k ++ [⟨k, hlt, ht'.out⟩], by rw [← elsS_yes b k hlt ht'.out]; exact elsS_prefix b (k + 1) 32 hlt, hJx3⟩⟩
    · obtain rfl : k = 32 := by omega
      gi_wp2
      go_end0
      exact ⟨⟨_, rfl⟩, .inl ⟨_, rfl, hJ⟩⟩

theorem all2_stops (n Bn b : Nat) (hn : 1 ≤ n) (hb : b < 4294967296) (w : World) (hB : CBlk w Bn 95 #[.int .u32 b]) :
    SeqStopsK Fence.wide n Tryz.prog 115 #[.pointer (some ⟨Bn, 0, none⟩)] (fun x : El b => #[Value.int .i64 x.1]) (KpB Bn) (fun ys => ys = elsS b 32) (fun pre => pre <+: elsS b 32) (elsS b 32).length w :=
  fun l J Jx W hW _ _ hY h0 => all2_in n l Bn b hb J Jx hY hn W (hB.below hW hB.lt) h0

end Its
end Go.Proofs.YtchimfgbdfmegaaGreat
/- The pairs of an inner node are where their hashes lead. -/
namespace Go.Proofs.YtchimfgbdfmegaaGreat
open Go.RowKit Go.Lib Go.Shelf
set_option linter.unusedVariables false
set_option linter.unusedSimpArgs false
set_option maxRecDepth 100000
attribute [local irreducible] cnt
attribute [local go_sem] Oper.semAt_some
/-- every pair of these slots is where its hash leads -/
def inB (H : ByteArray → Nat) (P : Nat → Option Pr) (p : List Nat) : Bool := (List.range 32).all fun c => match P c with | none => true | some q => leadsB (H q.1) (p ++ [c])
theorem inB_true {H : ByteArray → Nat} {P : Nat → Option Pr} {p : List Nat} (h : ∀ c q, c < 32 → P c = some q → leadsB (H q.1) (p ++ [c]) = true) : inB H P p = true := by
  unfold inB
  rw [List.all_eq_true]
  intro c hc
  cases e : P c with
  | none => rfl
  | some q => exact h c q (List.mem_range.1 hc) e
theorem inB_false {H : ByteArray → Nat} {P : Nat → Option Pr} {p : List Nat} {c : Nat} {q : Pr} (hc : c < 32) (e : P c = some q) (h : leadsB (H q.1) (p ++ [c]) = false) : inB H P p = false := by
  unfold inB
  rw [List.all_eq_false]
  exact ⟨c, List.mem_range.2 hc, by rw [e]; simp [h]⟩
theorem keeps_of_below {W W' : World} (h : Below W.heap.size W W') : KeepsOthers W W' := ⟨h.size, fun i o ho _ => by
  have hl : i < W.heap.size := by
    rcases Nat.lt_or_ge i W.heap.size with hl | hl
    · exact hl
    · rw [Array.getElem?_eq_none hl] at ho; cases ho
  rw [h.block i hl]; exact ho⟩
def noDefer (ops : Array Oper) : Bool := ops.toList.all fun o => match o.op with | .defer _ => false | _ => true
theorem noDefer_spec {ops : Array Oper} (h : noDefer ops = true) : ∀ (i : Nat) (o : Oper), ops[i]? = some o → ∀ c, o.op ≠ .defer c := fun i o ho c e => by
  unfold noDefer at h
  rw [List.all_eq_true] at h
  have := h o (Array.mem_toList_iff.2 (Array.mem_of_getElem? ho))
  rw [e] at this
  simp at this
theorem wpIn_region_held2 {P : Program} {ops : Array Oper} {Q : Exit → Act → World → Prop} {S : World → Prop} (l n : Nat) {id : Nat} {a : Act} {w : World} (hm : P.follows .mixedOrders = true) (hd : ∀ (i : Nat) (o : Oper), ops[i]? = some o → ∀ c, o.op ≠ .defer c) (hS : S w.drew)
    (h : S w.drew → wpAnyH P .any ops (fun e a w => e = .normal ∧ Q .normal a w) S ops.size (Array.replicate ops.size false) a w.drew) : (Code.region id ops true).wpIn (Fence.wide.inRound l) n P Q a w :=
  Code.wpIn_mono (fun e a w h => by rw [h.1]; exact h.2) (wpIn_region_held l n hm hd (by rintro ⟨a, w, h, _⟩; cases h) hS h)
theorem Blk.own {W W' : World} {row : Option Nat} {g : Nat} {t : TypeId} {cs : Array Value} (h : Blk W g t cs) (hg : W.grownBy W' row) (hr : ∀ r, row = some r → ∃ o : Obj, W.heap[r]? = some o ∧ o.isCells = false) : Blk W' g t cs :=
  (hg.block g h.lt (fun e => by
    obtain ⟨o, ho, hc⟩ := hr g e.symm
    have h' : W.heap[g]? = some (.cells cs t (0, 0)) := h
    rw [h'] at ho
    cases ho
    simp [Obj.isCells] at hc)).trans h
theorem bits_data (P : Nat → Option Pr) : BitsOf (dataR P) (fun i => (P i).isSome) := ⟨dataR_lt P, fun i hi => by unfold dataR; exact maskTo_bit _ _ _ hi⟩
theorem pair_data (nb b i : Nat) (o : Value) (P : Nat → Option Pr) (nn : Nat) (pv kv : Value) (ks : List Nat) (w : World) (h : NdV nb w b o false (dataR P) nn pv kv (fm P 32) ks) (hi : i < 32) (q : Pr) (hq : P i = some q) :
    Calls Tryz.prog 80 #[at0 b, .int .i64 i] w (PairPost (some q) w) := by
  have h1 := bits_data P
  have hb : (dataR P).testBit i = true := by rw [h1.bit i hi, hq]; rfl
  have hf := fm_at P i q hi hq
  have e0 : cnt i (dataR P) = (fm P i).length := cnt_fm _ h1 i (by omega)
  have hc := pair_some nb b o false _ nn pv kv _ _ w h i hi h1.lt (Lib.hid hb) (by rw [e0]; exact (List.getElem?_eq_some_iff.1 hf).1) (Nat.le_trans (fm_len_le P 32) (by omega))
  have e : pat (fm P 32) (cnt i (dataR P)) = q := by
    rw [e0]
    unfold pat
    rw [hf]; rfl
  rw [e] at hc
  exact hc
set_option maxHeartbeats 8000000 in
theorem rightPairs_in (k0 k1 m : Int) (nb b : Nat) (ow pv kv : Value) (P : Nat → Option Pr) (nn : Nat) (ks : List Nat) (p : List Nat) (v : Value) (w : World) (hN : NdV nb w b ow false (dataR P) nn pv kv (fm P 32) ks) (hK : ∀ c q, P c = some q → q.1.size ≤ 1000) (h0 : U64 k0) (h1 : U64 k1)
    (ho : OwnI 0 w v p) (hp : p.length ≤ 12) :
    CallsIn Fence.wide 5 Tryz.prog 65 #[hasherV k0 k1 m, at0 b, v] w fun e w' => e = .returned (.bool (inB (hz k0 k1 m) P p)) ∧ Below w.heap.size w w' := by
  obtain ⟨A, c, rfl⟩ := own_formN ho
  obtain ⟨r, hr⟩ : ∃ r, r = inB (hz k0 k1 m) P p := ⟨_, rfl⟩
  rw [← hr]
  have HR := Lib.hid hr
  have HK := Lib.hid hK
  obtain ⟨n, hn⟩ : ∃ n, n = p.length := ⟨_, rfl⟩
  rw [← hn] at hp ho ⊢
  have HN := Lib.hid hn
  clear hK hr hn
  have b3 := (((Blk.new w 26 #[.int .u64 k0, .int .u64 k1, .int .u64 m]).alloc (.cells #[.pointer (some ⟨b, 0, none⟩)] 29)).alloc (.cells #[.slice A n c] 124)).alloc (.cells #[.bool false] 4)
  have b4 := ((Blk.new (w.alloc (.cells #[.int .u64 k0, .int .u64 k1, .int .u64 m] 26)) 29 #[.pointer (some ⟨b, 0, none⟩)]).alloc (.cells #[.slice A n c] 124)).alloc (.cells #[.bool false] 4)
  have b5 := (Blk.new ((w.alloc (.cells #[.int .u64 k0, .int .u64 k1, .int .u64 m] 26)).alloc (.cells #[.pointer (some ⟨b, 0, none⟩)] 29)) 124 #[.slice A n c]).alloc (.cells #[.bool false] 4)
  have b6 := Blk.new (((w.alloc (.cells #[.int .u64 k0, .int .u64 k1, .int .u64 m] 26)).alloc (.cells #[.pointer (some ⟨b, 0, none⟩)] 29)).alloc (.cells #[.slice A n c] 124)) 4 #[.bool false]
  have hB : Below w.heap.size w ((((w.alloc (.cells #[.int .u64 k0, .int .u64 k1, .int .u64 m] 26)).alloc (.cells #[.pointer (some ⟨b, 0, none⟩)] 29)).alloc (.cells #[.slice A n c] 124)).alloc (.cells #[.bool false] 4)) :=
    ((((Below.refl _ w).alloc (Nat.le_refl _) _).alloc (by simp) _).alloc (by simp; omega) _).alloc (by simp; omega) _
  simp only [World.size_alloc] at b3 b4 b5 b6
  unfold hasherV at0
  refine callsIn_of_wp_marks Tryz.func65 rfl trivial ?_ rfl
  simp only [Tryz.ntmps65, List.size_toArray, List.length_cons, List.length_nil, Nat.reduceAdd, Nat.reduceSub, Array.replicate_succ, Array.replicate_zero, List.push_toArray, List.append_toArray, List.nil_append, List.cons_append]
  gi_wp2
  generalize (((w.alloc (.cells #[.int .u64 k0, .int .u64 k1, .int .u64 m] 26)).alloc (.cells #[.pointer (some ⟨b, 0, none⟩)] 29)).alloc (.cells #[.slice A n c] 124)).alloc (.cells #[.bool false] 4) = W0 at *
  have ho := ho.below hB
  have hN := hN.below hB
  have kb := isBucket_any _ _ _ _ _ _ _ _ _ _ W0 hN
  have kd := data_any _ _ _ _ _ _ _ _ _ _ W0 hN
  have ka := Its.all_any (dataR P) W0
  have hd32 := dataR_lt P
  unfold at0 at kb kd
  have h36 : w.heap.size ≤ w.heap.size + 1 + 1 + 1 := by omega
  generalize w.heap.size + 1 + 1 + 1 = N6 at *
  generalize w.heap.size + 1 + 1 = N5 at *
  generalize w.heap.size + 1 = N4 at *
  generalize hz0 : w.heap.size = N3 at *
  have y4 := b4.cell 0
  refine ⟨trivial, (callsIn_wide.2 kb).mono ?_⟩
  rintro e w' ⟨rfl, rfl⟩
  gi_wp2
  refine ⟨trivial, (callsIn_wide.2 kd).mono ?_⟩
  rintro e w' ⟨rfl, rfl⟩
  gi_wp2
  refine ⟨trivial, (callsIn_wide.2 ka).mono ?_⟩
  rintro e w' ⟨rfl, rfl⟩
  gi_wp2
  have b7 := Its.CBlk.new W0 95 #[.int .u32 (dataR P)]
  have hB7 := (Below.refl _ W0).alloc (Nat.le_refl _) (.cells #[.int .u32 (dataR P)] 95)
  have y4 := (b4.below hB7)
  have b3 := b3.below hB7
  have b5 := b5.below hB7
  have b6 := b6.below hB7
  have ho := ho.below hB7
  have hN := hN.below hB7
  have hB := hB.trans (hB7.mono (by rw [← hz0]; exact hB.size))
  clear b4 kb kd ka hB7
  generalize W0.alloc (.cells #[.int .u32 (dataR P)] 95) = W1 at *
  generalize W0.heap.size = N7 at *
  have hKb := Its.KpB_b b7.lt
  have HB := Lib.hid hB
  refine wpIn_rangeFunc_ownG rfl (by decide) (gf := 115) (lb := #[.pointer (some ⟨N7, 0, none⟩)]) rfl trivial (enters_of Tryz.func115 (by kernel_rfl) rfl)
    (Its.all2_stops (5 - 1) N7 (dataR P) (by decide) hd32 W1 b7) Its.KpB_t hKb (Below.refl _ _) (fun _ => rfl)
    (fun pre W => (∀ x ∈ pre, ∀ q, P x.1 = some q → leadsB (hz k0 k1 m q.1) (p ++ [x.1]) = true) ∧ Below W1.heap.size W1 W)
    (fun c pre W => ((c = .ret ∧ r = false) ∧ Blk W N6 4 #[.bool false]) ∧ Below N3 w W)
    (OwnFrom.and (ownFrom_pure _ _) (ownFrom_below (Nat.le_refl _) (Nat.le_refl _)))
    (fun c => ?own)
    ⟨by simp, Below.refl _ _⟩
    (fun x => { tmps := #[.agg #[.int .u64 k0, .int .u64 k1, .int .u64 m], .pointer (some ⟨b, 0, none⟩), .slice A n c, .pointer (some ⟨N3, 0, none⟩), .pointer (some ⟨N4, 0, none⟩), .pointer (some ⟨N5, 0, none⟩), .pointer (some ⟨N6, 0, none⟩), undef, undef, .int .i64 x.1, undef, undef, .pointer (some ⟨b, 0, none⟩), .bool false, undef, undef, undef, undef, undef, undef, undef, undef, undef, undef, undef, undef, undef, undef, undef, .pointer (some ⟨b, 0, none⟩), .int .u32 (dataR P : Nat), .func (.func 115) #[] #[.pointer (some ⟨N7, 0, none⟩)], .int .i64 x.1, undef, undef, undef, undef, undef, undef, undef, undef, undef, undef, undef, undef, undef, undef, undef], defers := [] }) ?assign ?body ?done ?stop
  case own => exact OwnFrom.and (OwnFrom.and (ownFrom_pure _ _) (Own.from (fun s X Y row hs hg hr => hs.own hg hr) _)) (ownFrom_below (by rw [hz0]; exact Nat.le_refl _) (by rw [← hz0]; exact hB.size))
  case assign =>
    intro l x W K hK
    gi_wp2
    exact hK
  case body =>
    rintro l pre x W ⟨hE, hB1⟩ hpl
    clear hpl
    have hbit := x.2.2
    obtain ⟨q, hq⟩ : ∃ q, P x.1 = some q := Option.isSome_iff_exists.1 (by rw [← (bits_data P).bit x.1 x.2.1]; exact hbit)
    obtain ⟨g, hg⟩ : ∃ g, g = leadsB (hz k0 k1 m q.1) (p ++ [x.1]) := ⟨_, rfl⟩
    refine Code.wpIn_mono (Q := fun e a w' => (e = .normal ∧ g = true ∧ Below W.heap.size W w') ∨ (e = .ret ∧ g = false ∧ Blk w' N6 4 #[.bool false] ∧ Below N3 W w' ∧ KeepsOthers W w')) ?_ ?_
    · rintro e a w' (⟨rfl, rfl, hB2⟩ | ⟨rfl, rfl, h6, hB2, hk2⟩)
      · refine ⟨(keeps_of_below hB2).from _, hB2.block N7 (Nat.lt_of_lt_of_le b7.lt hB1.size), fun x' hx' q' hq' => ?_, hB1.trans (hB2.mono hB1.size)⟩
        rcases List.mem_append.1 hx' with h | h
        · exact hE x' h q' hq'
        · obtain rfl := List.mem_singleton.1 h
          rw [hq] at hq'
          obtain rfl := Option.some.inj hq'
          exact hg.symm
      · exact ⟨hk2.from _, ⟨⟨rfl, by rw [HR.out]; exact inB_false x.2.1 hq hg.symm⟩, h6⟩, (hB.trans (hB1.mono (by rw [← hz0]; exact hB.size))).trans hB2⟩
    have hi := x.2.1
    have hk := HK.out x.1 q hq
    have kp : Calls Tryz.prog 80 #[.pointer (some ⟨b, 0, none⟩), .int .i64 x.1] W fun e w' => e = .returned (.tuple #[.agg #[.string q.1, .string q.2], .bool true]) ∧ Below W.heap.size W w' := pair_data nb b x.1 ow P nn pv kv ks W (hN.below hB1) hi q hq
    have kl := fun B w' v' (h : OwnI B w' v' (p ++ [x.1])) => leads_any B v' (p ++ [x.1]) (hz k0 k1 m q.1) w' h (by rw [List.length_append, ← HN.out]; simp; omega) (hz_int k0 k1 m q.1).2
    have kt := fun w' (h : OwnI 0 w' (.slice A n c) p) => then_any 0 (.slice A n c) p x.1 w' h (by rw [← HN.out]; omega) (by omega)
    have kh := fun w' => hash_hz k0 k1 m q.1 w' h0 h1 hk
    rw [← hg] at kl
    have HG := Lib.hid hg
    have b3 := b3.below hB1
    have b5 := b5.below hB1
    have b6 := b6.below hB1
    have ho := ho.below hB1
    have y4 := (y4.below hB1).cell 0
    have HBB := Lib.hid hB
    have HB1 := Lib.hid hB1
    clear hE hq hN b7 hB hB1 hk hKb hbit hg HR HK
    generalize p ++ [x.1] = p1 at *
    generalize x.1 = i at *
    generalize hz k0 k1 m q.1 = y at *
    gi_wp2
    refine ⟨trivial, (CallsIn.inRound l (callsIn_wide.2 kp)).mono ?_⟩
    rintro e w2 ⟨rfl, hB2⟩
    clear kp y4
    gi_wp2
    have b3 := b3.below hB2
    have b5 := b5.below hB2
    have ho := ho.below hB2
    have hBl := (Below.refl _ w2).alloc (Nat.le_refl _) (.cells #[.string q.1, .string q.2] 52)
    have b8 := Blk.new w2 52 #[.string q.1, .string q.2]
    have b3 := b3.below hBl
    have b5 := b5.below hBl
    have ho := ho.below hBl
    have hB2 := hB2.trans (hBl.mono hB2.size)
    clear hBl
    generalize w2.alloc (.cells #[.string q.1, .string q.2] 52) = W3 at *
    generalize w2.heap.size = N8 at *
    have hdr : Below W3.heap.size W3 W3.drew := (Below.refl _ W3).drew
    have hS0 : (fun w' : World => w'.cell? ⟨N3, 0, none⟩ = some (.int .u64 k0) ∧ w'.cell? ⟨N3, 1, none⟩ = some (.int .u64 k1) ∧ w'.cell? ⟨N3, 2, none⟩ = some (.int .u64 m) ∧ w'.cell? ⟨N8, 0, none⟩ = some (.string q.1) ∧ w'.cell? ⟨N5, 0, none⟩ = some (.slice A n c)) W3.drew := ⟨b3.cell 0, b3.cell 1, b3.cell 2, b8.cell 0, b5.cell 0⟩
    have ho := ho.below hdr
    have hB2 := hB2.drew
    clear hdr b3 b5 b8
    refine wpIn_region_held2 l _ (S := (fun w' : World => w'.cell? ⟨N3, 0, none⟩ = some (.int .u64 k0) ∧ w'.cell? ⟨N3, 1, none⟩ = some (.int .u64 k1) ∧ w'.cell? ⟨N3, 2, none⟩ = some (.int .u64 m) ∧ w'.cell? ⟨N8, 0, none⟩ = some (.string q.1) ∧ w'.cell? ⟨N5, 0, none⟩ = some (.slice A n c))) (by kernel_rfl) (noDefer_spec (by kernel_rfl)) hS0 ?_
    intro hS
    refine wpAnyH_take (i := 0) (oi := { dst := some 39, op := Go.Op.load 26 (Go.Operand.tmp 3), type := 26, pos := "canon.go:42", after := #[], guard := none }) (v := .agg #[.int .u64 k0, .int .u64 k1, .int .u64 m]) rfl (by kernel_rfl) (by kernel_rfl) (by kernel_rfl) (fun _ _ _ h => by cases h.1) (Or.inl ⟨by rfl, fun w hSw => ?_⟩) hS ?_
    · go_split_ands
      go_simp
    try simp only [Act.put, List.setIfInBounds_toArray, List.set_cons_zero, List.set_cons_succ]
    refine wpAnyH_take (i := 1) (oi := { dst := some 40, op := Go.Op.fieldAddr 52 (Go.Operand.tmp 10) 0, type := 0, pos := "canon.go:42", after := #[], guard := none }) (v := .pointer (some ⟨N8, 0, none⟩)) rfl (by kernel_rfl) (by kernel_rfl) (by kernel_rfl) (fun _ _ _ h => by cases h.1) (Or.inl ⟨by rfl, fun w hSw => ?_⟩) hS ?_
    · go_split_ands
      go_simp
    try simp only [Act.put, List.setIfInBounds_toArray, List.set_cons_zero, List.set_cons_succ]
    refine wpAnyH_take (i := 2) (oi := { dst := some 41, op := Go.Op.load 9 (Go.Operand.tmp 40), type := 9, pos := "canon.go:42", after := #[{ on := 1, ground := Go.Ground.data }], guard := none }) (v := .string q.1) rfl (by kernel_rfl) (by kernel_rfl) (by kernel_rfl) (fun _ _ _ h => by cases h.1) (Or.inl ⟨by rfl, fun w hSw => ?_⟩) hS ?_
    · go_split_ands
      go_simp
    try simp only [Act.put, List.setIfInBounds_toArray, List.set_cons_zero, List.set_cons_succ]
    refine wpAnyH_take (i := 4) (oi := { dst := some 43, op := Go.Op.load 124 (Go.Operand.tmp 5), type := 124, pos := "canon.go:42", after := #[], guard := none }) (v := .slice A n c) rfl (by kernel_rfl) (by kernel_rfl) (by kernel_rfl) (fun _ _ _ h => by cases h.1) (Or.inl ⟨by rfl, fun w hSw => ?_⟩) hS ?_
    · go_split_ands
      go_simp
    try simp only [Act.put, List.setIfInBounds_toArray, List.set_cons_zero, List.set_cons_succ]
    refine wpAnyH_take (i := 5) (oi := { dst := some 44, op := Go.Op.move (Go.Operand.tmp 9), type := 3, pos := "canon.go:42", after := #[], guard := none }) (v := .int .i64 i) rfl (by kernel_rfl) (by kernel_rfl) (by kernel_rfl) (fun _ _ _ h => by cases h.1) (Or.inl ⟨by rfl, fun w hSw => ?_⟩) hS ?_
    · go_split_ands
      go_simp
    try simp only [Act.put, List.setIfInBounds_toArray, List.set_cons_zero, List.set_cons_succ]
    refine wpAnyH_ready (rs := [3]) (by kernel_rfl) (by simp) ?_
    refine AllReadyH.cons (o := { dst := some 42, op := Go.Op.call { callee := Go.Callee.value (Go.Operand.func 49), args := #[Go.Operand.tmp 39, Go.Operand.tmp 41], argTypes := #[26, 9] }, type := 22, pos := "canon.go:42", after := #[{ on := 0, ground := Go.Ground.data }, { on := 2, ground := Go.Ground.data }], guard := none }) rfl (fun K hK => ?_) AllReadyH.nil
    go_simp
    refine (kh _).mono ?_
    rintro e wA ⟨rfl, hBA⟩
    go_wp2_with fail
    have hSn := keepS hS hBA
    refine hK.out _ _ hSn (fun _ => ?_)
    clear hK K hS
    try simp only [Act.put, List.setIfInBounds_toArray, List.set_cons_zero, List.set_cons_succ]
    have hS := hSn
    clear hSn
    replace ho := ho.below hBA
    have hB2 := hB2.trans (hBA.mono hB2.size)
    refine wpAnyH_ready (rs := [6]) (by kernel_rfl) (by simp) ?_
    refine AllReadyH.cons (o := { dst := some 45, op := Go.Op.call { callee := Go.Callee.value (Go.Operand.func 98), args := #[Go.Operand.tmp 43, Go.Operand.tmp 44], argTypes := #[124, 3] }, type := 124, pos := "canon.go:42", after := #[{ on := 4, ground := Go.Ground.data }, { on := 5, ground := Go.Ground.data }, { on := 3, ground := Go.Ground.chain }], guard := none }) rfl (fun K hK => ?_) AllReadyH.nil
    go_simp
    refine (kt _ ho).mono ?_
    rintro e wC ⟨v2, rfl, ho2, hBC⟩
    go_wp2_with fail
    have hSn := keepS hS hBC
    refine hK.out _ _ hSn (fun _ => ?_)
    clear hK K hS
    try simp only [Act.put, List.setIfInBounds_toArray, List.set_cons_zero, List.set_cons_succ]
    have hS := hSn
    clear hSn
    have hB2 := hB2.trans (hBC.mono hB2.size)
    refine wpAnyH_ready (rs := [7]) (by kernel_rfl) (by simp) ?_
    refine AllReadyH.cons (o := { dst := some 46, op := Go.Op.call { callee := Go.Callee.value (Go.Operand.func 96), args := #[Go.Operand.tmp 42, Go.Operand.tmp 45], argTypes := #[22, 124] }, type := 4, pos := "canon.go:42", after := #[{ on := 3, ground := Go.Ground.data }, { on := 6, ground := Go.Ground.data }, { on := 6, ground := Go.Ground.chain }], guard := none }) rfl (fun K hK => ?_) AllReadyH.nil
    go_simp
    refine (kl _ _ _ ho2).mono ?_
    rintro e wD ⟨rfl, rfl⟩
    go_wp2_with fail
    have hSn := hS
    refine hK.out _ _ hSn (fun _ => ?_)
    clear hK K hS
    try simp only [Act.put, List.setIfInBounds_toArray, List.set_cons_zero, List.set_cons_succ]
    have hS := hSn
    clear hSn
    refine wpAnyH_take (i := 8) (oi := { dst := some 47, op := Go.Op.unOp Go.UnOp.not 4 (Go.Operand.tmp 46), type := 4, pos := "canon.go:42", after := #[{ on := 7, ground := Go.Ground.data }], guard := none }) (v := .bool (!g)) rfl (by kernel_rfl) (by kernel_rfl) (by kernel_rfl) (fun _ _ _ h => by cases h.1) (Or.inl ⟨by rfl, fun w hSw => ?_⟩) hS ?_
    · go_split_ands
      go_simp
    try simp only [Act.put, List.setIfInBounds_toArray, List.set_cons_zero, List.set_cons_succ]
    refine wpAnyH_done (by kernel_rfl) ?_ _
    refine ⟨rfl, ?_⟩
    clear hS kh kl kt hS0 ho ho2 hBC hBA
    have hN3 : N3 ≤ W.heap.size := by
      have h1 := HBB.out.size
      have h2 := HB1.out.size
      omega
    have b6 := b6.below hB2
    have y6 : wC.cell? ⟨N6, 0, none⟩ = some (.bool false) := b6.cell 0
    have f6 := b6.frozen 0
    have F6 := Lib.hid (b6.set_ 0 (.bool false))
    have HX := Lib.hid hB2
    have HN3 := Lib.hid hN3
    have H36 := Lib.hid h36
    clear b6 hB2 hN3 h36 hp hi hd32 hN hB hz0 b3 b5 y4 h0 h1
    cases g
    · gi_wp2
      exact ⟨F6.out, (HX.out.mono HN3.out).setCell (p := ⟨N6, 0, none⟩) H36.out _, (keeps_of_below HX.out).trans (KeepsOthers.setCell _ _ _)⟩
    · gi_wp2
      exact HX.out
  case done =>
    rintro D ys W hD rfl ⟨hE, hB1⟩ hK
    have b6 := b6.below hB1
    have y6 := b6.cell 0
    have f6 := b6.frozen 0
    obtain rfl : r = true := by
      rw [HR.out]
      exact inB_true fun c q hc hq => hE ⟨c, hc, by rw [(bits_data P).bit c hc, hq]; rfl⟩ (Its.elsS_mem _ _) q hq
    have F6 := b6.set_ 0 (.bool true)
    have hK' := (KeepsOthers.setCell W ⟨N6, 0, none⟩ (.bool true)).same D _ hK rfl
    have D6 := Lib.hid ((F6.own (grownBy_putObj' _ D (.deferred none)) (fun r e => by cases e; exact ⟨_, hK', rfl⟩)).cell 0)
    have hB2 := (hB.trans (hB1.mono (by rw [← hz0]; exact hB.size))).setCell (p := ⟨N6, 0, none⟩) h36 (.bool true)
    have hB3 := Lib.hid (hB2.trans (belowK_b (w := w) (by rw [hz0]; exact Nat.le_refl _) _ D _ (.deferred none) (by rw [hz0]; have := HB.out.size; omega) hK' rfl rfl))
    have HKK := Lib.hid hK'
    have HZ := Lib.hid hz0
    clear F6 hK' hB2 hE hKb b7 hK hB1 b3 b5 hN ho hd32 hB h36 y4 hp h0 h1 b6 HR HK hz0
    gi_wp2
    refine ⟨by simp, .inl ⟨_, _, rfl, run_takeDeferred HKK.out, ?_⟩⟩
    refine ⟨.bool true, ?_, rfl, by rw [HZ.out]; exact hB3.out⟩
    simp [results, Tryz.f65, go_sem, D6.out]
  case stop =>
    rintro D c' pre W hD hpre ⟨⟨⟨rfl, rfl⟩, h6⟩, hB1⟩ hK
    have D6 := Lib.hid ((h6.own (grownBy_putObj' _ D (.deferred none)) (fun r e => by cases e; exact ⟨_, hK, rfl⟩)).cell 0)
    have hB3 := Lib.hid (hB1.trans (belowK_b (w := w) (by rw [hz0]; exact Nat.le_refl _) _ D _ (.deferred none) (by rw [hz0]; have := HB.out.size; omega) hK rfl rfl))
    have HZ := Lib.hid hz0
    have HKK := Lib.hid hK
    clear h6 hB1 hKb b7 hK b3 b5 hN ho hd32 hB h36 y4 hp h0 h1 b6 HK hz0
    gi_wp2
    refine ⟨by simp, .inl ⟨_, _, rfl, run_takeDeferred HKK.out, ?_⟩⟩
    refine ⟨.bool false, ?_, rfl, by rw [HZ.out]; exact hB3.out⟩
    simp [results, Tryz.f65, go_sem, D6.out]
end Go.Proofs.YtchimfgbdfmegaaGreat
/- The kids of an inner node are right. -/
namespace Go.Proofs.YtchimfgbdfmegaaGreat
open Go.RowKit Go.Lib Go.Shelf
set_option linter.unusedVariables false
set_option linter.unusedSimpArgs false
set_option maxRecDepth 100000
attribute [local irreducible] cnt
attribute [local go_sem] Oper.semAt_some
/-- what is said of all kids -/
def kidsB (K : Nat → RT) (G : Nat → Bool) : Bool := (List.range 32).all fun c => match (K c).opt with | none => true | some _ => G c
theorem kidsB_true {K : Nat → RT} {G : Nat → Bool} (h : ∀ c, c < 32 → (K c).opt.isSome = true → G c = true) : kidsB K G = true := by
  unfold kidsB
  rw [List.all_eq_true]
  intro c hc
  cases e : (K c).opt with
  | none => rfl
  | some q => exact h c (List.mem_range.1 hc) (by rw [e]; rfl)
theorem kidsB_false {K : Nat → RT} {G : Nat → Bool} {c : Nat} (hc : c < 32) (e : (K c).opt.isSome = true) (h : G c = false) : kidsB K G = false := by
  unfold kidsB
  rw [List.all_eq_false]
  refine ⟨c, List.mem_range.2 hc, ?_⟩
  cases e' : (K c).opt with
  | none => rw [e'] at e; cases e
  | some q => simp [h]
theorem bits_nodes (K : Nat → RT) : BitsOf (nodesR K) (fun i => (K i).opt.isSome) := ⟨nodesR_lt K, fun i hi => by unfold nodesR; exact maskTo_bit _ _ _ hi⟩
theorem keepS2 {N1 N3 : Nat} {k0 k1 m y : Value} {w w' : World} (h : w.cell? ⟨N1, 0, none⟩ = some k0 ∧ w.cell? ⟨N1, 1, none⟩ = some k1 ∧ w.cell? ⟨N1, 2, none⟩ = some m ∧ w.cell? ⟨N3, 0, none⟩ = some y) (hB : Below w.heap.size w w') :
    w'.cell? ⟨N1, 0, none⟩ = some k0 ∧ w'.cell? ⟨N1, 1, none⟩ = some k1 ∧ w'.cell? ⟨N1, 2, none⟩ = some m ∧ w'.cell? ⟨N3, 0, none⟩ = some y := by
  have f : ∀ a v, w.cell? a = some v → w'.cell? a = some v := fun a v e => (hB.cell (World.block_lt_of_cell? w _ e)).trans e
  obtain ⟨a, b, c, e⟩ := h
  exact ⟨f _ _ a, f _ _ b, f _ _ c, f _ _ e⟩
theorem own0 {base : Nat} {w : World} {v : Value} {L : List Nat} (h : OwnI base w v L) : OwnI 0 w v L := by
  refine ⟨h.1, ?_⟩
  rcases h.2 with h1 | ⟨g, cap, cur, h1, h2, h3⟩
  · exact .inl h1
  · exact .inr ⟨g, cap, cur, h1, Nat.zero_le _, h3⟩
theorem NdR.below' (t : RT) {base : Nat} {w w' : World} {b : Nat} (h : Hid (NdR base w t b)) (hb : Below w.heap.size w w') : Hid (NdR base w' t b) := Lib.hid (NdR.below t h.out hb)
theorem kid_nodes (nb b i k : Nat) (o : Value) (bk : Bool) (d : Nat) (K : Nat → RT) (kb : Nat → Option Nat) (pv kv : Value) (xs : List Pr) (w : World) (h : NdV nb w b o bk d (nodesR K) pv kv xs (fm kb 32)) {Q : Nat → Nat → Prop}
    (hk : ∀ c, c < 32 → ((K c).opt = none ∧ kb c = none) ∨ ∃ k, (K c).opt.isSome = true ∧ kb c = some k ∧ Q c k) (hi : i < 32) (hq : kb i = some k) :
    Calls Tryz.prog 82 #[at0 b, .int .i64 i] w (KidPost (some k) w) := by
  have h1 : BitsOf (nodesR K) (fun i => (kb i).isSome) := ⟨nodesR_lt K, fun c hc => by
    rw [(bits_nodes K).bit c hc]
    rcases hk c hc with ⟨a, b⟩ | ⟨k, a, b, _⟩ <;> rw [a, b] <;> rfl⟩
  have hb : (nodesR K).testBit i = true := by rw [h1.bit i hi, hq]; rfl
  have hf := fm_at kb i k hi hq
  refine kid_some nb b o bk d _ pv kv _ _ w h i k hi h1.lt (Lib.hid hb) ?_ (Nat.le_trans (fm_len_le kb 32) (by omega))
  rw [cnt_fm _ h1 i (by omega)]
  exact hf
set_option maxHeartbeats 8000000 in
theorem rightKids_any (k0 k1 m : Int) (nb b d : Nat) (bk : Bool) (ow pv kv : Value) (K : Nat → RT) (kb : Nat → Option Nat) (xs : List Pr) (G : Nat → Bool) (p : List Nat) (v : Value) (w : World) (hN : NdV nb w b ow bk d (nodesR K) pv kv xs (fm kb 32))
    (hk : ∀ c, c < 32 → ((K c).opt = none ∧ kb c = none) ∨ ∃ k, (K c).opt.isSome = true ∧ kb c = some k ∧ NdR nb w (K c) k)
    (hR : ∀ c, c < 32 → ∀ (k : Nat) (v : Value) (w : World), NdR nb w (K c) k → OwnI 0 w v (p ++ [c]) → Calls Tryz.prog 37 #[hasherV k0 k1 m, at0 k, v] w fun e w' => e = .returned (.bool (G c)) ∧ Below w.heap.size w w')
    (ho : OwnI 0 w v p) (hp : p.length ≤ 13) :
    CallsIn Fence.wide 5 Tryz.prog 66 #[hasherV k0 k1 m, at0 b, v] w fun e w' => e = .returned (.bool (kidsB K G)) ∧ Below w.heap.size w w' := by
  obtain ⟨A, c, rfl⟩ := own_formN ho
  obtain ⟨r, hr⟩ : ∃ r, r = kidsB K G := ⟨_, rfl⟩
  rw [← hr]
  have HR := Lib.hid hr
  have HK := Lib.hid hk
  have HRK := Lib.hid hR
  obtain ⟨n, hn⟩ : ∃ n, n = p.length := ⟨_, rfl⟩
  rw [← hn] at hp ho ⊢
  have HN := Lib.hid hn
  clear hk hR hr hn
  have b3 := (((Blk.new w 26 #[.int .u64 k0, .int .u64 k1, .int .u64 m]).alloc (.cells #[.pointer (some ⟨b, 0, none⟩)] 29)).alloc (.cells #[.slice A n c] 124)).alloc (.cells #[.bool false] 4)
  have b4 := ((Blk.new (w.alloc (.cells #[.int .u64 k0, .int .u64 k1, .int .u64 m] 26)) 29 #[.pointer (some ⟨b, 0, none⟩)]).alloc (.cells #[.slice A n c] 124)).alloc (.cells #[.bool false] 4)
  have b5 := (Blk.new ((w.alloc (.cells #[.int .u64 k0, .int .u64 k1, .int .u64 m] 26)).alloc (.cells #[.pointer (some ⟨b, 0, none⟩)] 29)) 124 #[.slice A n c]).alloc (.cells #[.bool false] 4)
  have b6 := Blk.new (((w.alloc (.cells #[.int .u64 k0, .int .u64 k1, .int .u64 m] 26)).alloc (.cells #[.pointer (some ⟨b, 0, none⟩)] 29)).alloc (.cells #[.slice A n c] 124)) 4 #[.bool false]
  have hB : Below w.heap.size w ((((w.alloc (.cells #[.int .u64 k0, .int .u64 k1, .int .u64 m] 26)).alloc (.cells #[.pointer (some ⟨b, 0, none⟩)] 29)).alloc (.cells #[.slice A n c] 124)).alloc (.cells #[.bool false] 4)) :=
    ((((Below.refl _ w).alloc (Nat.le_refl _) _).alloc (by simp) _).alloc (by simp; omega) _).alloc (by simp; omega) _
  simp only [World.size_alloc] at b3 b4 b5 b6
  unfold hasherV at0
  refine callsIn_of_wp_marks Tryz.func66 rfl trivial ?_ rfl
  simp only [Tryz.ntmps66, List.size_toArray, List.length_cons, List.length_nil, Nat.reduceAdd, Nat.reduceSub, Array.replicate_succ, Array.replicate_zero, List.push_toArray, List.append_toArray, List.nil_append, List.cons_append]
  gi_wp2
  generalize (((w.alloc (.cells #[.int .u64 k0, .int .u64 k1, .int .u64 m] 26)).alloc (.cells #[.pointer (some ⟨b, 0, none⟩)] 29)).alloc (.cells #[.slice A n c] 124)).alloc (.cells #[.bool false] 4) = W0 at *
  have ho := ho.below hB
  have hN := hN.below hB
  have kn := nodes_any _ _ _ _ _ _ _ _ _ _ W0 hN
  have ka := Its.all_any (nodesR K) W0
  have hd32 := nodesR_lt K
  unfold at0 at kn
  have h36 : w.heap.size ≤ w.heap.size + 1 + 1 + 1 := by omega
  generalize w.heap.size + 1 + 1 + 1 = N6 at *
  generalize w.heap.size + 1 + 1 = N5 at *
  generalize w.heap.size + 1 = N4 at *
  generalize hz0 : w.heap.size = N3 at *
  have y4 := b4.cell 0
  refine ⟨trivial, (callsIn_wide.2 kn).mono ?_⟩
  rintro e w' ⟨rfl, rfl⟩
  gi_wp2
  refine ⟨trivial, (callsIn_wide.2 ka).mono ?_⟩
  rintro e w' ⟨rfl, rfl⟩
  gi_wp2
  have b7 := Its.CBlk.new W0 95 #[.int .u32 (nodesR K)]
  have hB7 := (Below.refl _ W0).alloc (Nat.le_refl _) (.cells #[.int .u32 (nodesR K)] 95)
  have b4 := b4.below hB7
  have y4 := b4
  have b3 := b3.below hB7
  have b5 := b5.below hB7
  have b6 := b6.below hB7
  have ho := ho.below hB7
  have hN := hN.below hB7
  have hB := hB.trans (hB7.mono (by rw [← hz0]; exact hB.size))
  clear kn ka hB7
  generalize W0.alloc (.cells #[.int .u32 (nodesR K)] 95) = W1 at *
  generalize W0.heap.size = N7 at *
  have hKb := Its.KpB_b b7.lt
  have HB := Lib.hid hB
  refine wpIn_rangeFunc_ownG rfl (by decide) (gf := 115) (lb := #[.pointer (some ⟨N7, 0, none⟩)]) rfl trivial (enters_of Tryz.func115 (by kernel_rfl) rfl)
    (Its.all2_stops (5 - 1) N7 (nodesR K) (by decide) hd32 W1 b7) Its.KpB_t hKb (Below.refl _ _) (fun _ => rfl)
    (fun pre W => (∀ x ∈ pre, G x.1 = true) ∧ Below W1.heap.size W1 W)
    (fun c pre W => ((c = .ret ∧ r = false) ∧ Blk W N6 4 #[.bool false]) ∧ Below N3 w W)
    (OwnFrom.and (ownFrom_pure _ _) (ownFrom_below (Nat.le_refl _) (Nat.le_refl _)))
    (fun c => ?own)
    ⟨by simp, Below.refl _ _⟩
    (fun x => { tmps := #[.agg #[.int .u64 k0, .int .u64 k1, .int .u64 m], .pointer (some ⟨b, 0, none⟩), .slice A n c, .pointer (some ⟨N3, 0, none⟩), .pointer (some ⟨N4, 0, none⟩), .pointer (some ⟨N5, 0, none⟩), .pointer (some ⟨N6, 0, none⟩), .int .i64 x.1, undef, undef, .pointer (some ⟨b, 0, none⟩), .int .u32 (nodesR K : Nat), .func (.func 115) #[] #[.pointer (some ⟨N7, 0, none⟩)], .int .i64 x.1, undef, undef, undef, undef, undef, undef, undef, undef, undef, undef, undef, undef, undef], defers := [] }) ?assign ?body ?done ?stop
  case own => exact OwnFrom.and (OwnFrom.and (ownFrom_pure _ _) (Own.from (fun s X Y row hs hg hr => hs.own hg hr) _)) (ownFrom_below (by rw [hz0]; exact Nat.le_refl _) (by rw [← hz0]; exact hB.size))
  case assign =>
    intro l x W K hK
    gi_wp2
    exact hK
  case body =>
    rintro l pre x W ⟨hE, hB1⟩ hpl
    clear hpl
    have hbit := x.2.2
    have hs : (K x.1).opt.isSome = true := by rw [← (bits_nodes K).bit x.1 x.2.1]; exact hbit
    obtain ⟨kd, hkd, hnd⟩ : ∃ kd, kb x.1 = some kd ∧ NdR nb W1 (K x.1) kd := by
      rcases HK.out x.1 x.2.1 with ⟨a, _⟩ | ⟨kd, _, a, b⟩
      · rw [a] at hs; cases hs
      · exact ⟨kd, a, NdR.below _ b (HB.out.mono (by rw [← hz0]; exact Nat.le_refl _))⟩
    obtain ⟨g, hg⟩ : ∃ g, g = G x.1 := ⟨_, rfl⟩
    refine Code.wpIn_mono (Q := fun e a w' => (e = .normal ∧ g = true ∧ Below W.heap.size W w') ∨ (e = .ret ∧ g = false ∧ Blk w' N6 4 #[.bool false] ∧ Below N3 W w' ∧ KeepsOthers W w')) ?_ ?_
    · rintro e a w' (⟨rfl, rfl, hB2⟩ | ⟨rfl, rfl, h6, hB2, hk2⟩)
      · refine ⟨(keeps_of_below hB2).from _, hB2.block N7 (Nat.lt_of_lt_of_le b7.lt hB1.size), fun x' hx' => ?_, hB1.trans (hB2.mono hB1.size)⟩
        rcases List.mem_append.1 hx' with h | h
        · exact hE x' h
        · obtain rfl := List.mem_singleton.1 h
          exact hg.symm
      · exact ⟨hk2.from _, ⟨⟨rfl, by rw [HR.out]; exact kidsB_false x.2.1 hs hg.symm⟩, h6⟩, (hB.trans (hB1.mono (by rw [← hz0]; exact hB.size))).trans hB2⟩
    have hi := x.2.1
    have kp : Calls Tryz.prog 82 #[.pointer (some ⟨b, 0, none⟩), .int .i64 x.1] W fun e w' => e = .returned (.tuple #[.pointer (some ⟨kd, 0, none⟩), .bool true]) ∧ Below W.heap.size W w' := kid_nodes nb b x.1 kd ow bk d K kb pv kv xs W (hN.below hB1) HK.out hi hkd
    have kr := HRK.out x.1 hi kd
    have kt := fun w' (h : OwnI 0 w' (.slice A n c) p) => then_any 0 (.slice A n c) p x.1 w' h (by rw [← HN.out]; omega) (by omega)
    rw [← hg] at kr
    unfold hasherV at0 at kr
    have hnd := NdR.below _ hnd hB1
    generalize K x.1 = tk at *
    have HG := Lib.hid hg
    have b3 := b3.below hB1
    have b5 := b5.below hB1
    have b6 := b6.below hB1
    have ho := ho.below hB1
    have y4 := (b4.below hB1).cell 0
    have HBB := Lib.hid hB
    have HB1 := Lib.hid hB1
    clear hE hN b7 hB hB1 hkd hs hKb hbit hg HR HK HRK b4
    generalize p ++ [x.1] = p1 at *
    generalize x.1 = i at *
    gi_wp2
    refine ⟨trivial, (CallsIn.inRound l (callsIn_wide.2 kp)).mono ?_⟩
    rintro e w2 ⟨rfl, hB2⟩
    clear kp y4
    gi_wp2
    have b3 := b3.below hB2
    have b5 := b5.below hB2
    have ho := ho.below hB2
    have hnd := NdR.below _ hnd hB2
    have hdr : Below w2.heap.size w2 w2.drew := (Below.refl _ w2).drew
    have hS0 : (fun w' : World => w'.cell? ⟨N3, 0, none⟩ = some (.int .u64 k0) ∧ w'.cell? ⟨N3, 1, none⟩ = some (.int .u64 k1) ∧ w'.cell? ⟨N3, 2, none⟩ = some (.int .u64 m) ∧ w'.cell? ⟨N5, 0, none⟩ = some (.slice A n c)) w2.drew := ⟨b3.cell 0, b3.cell 1, b3.cell 2, b5.cell 0⟩
    have ho := ho.below hdr
    have hkd := Lib.hid (NdR.below _ hnd hdr)
    have hB2 := hB2.drew
    clear hdr b3 b5 hnd
    refine wpIn_region_held2 l _ (S := (fun w' : World => w'.cell? ⟨N3, 0, none⟩ = some (.int .u64 k0) ∧ w'.cell? ⟨N3, 1, none⟩ = some (.int .u64 k1) ∧ w'.cell? ⟨N3, 2, none⟩ = some (.int .u64 m) ∧ w'.cell? ⟨N5, 0, none⟩ = some (.slice A n c))) (by kernel_rfl) (noDefer_spec (by kernel_rfl)) hS0 ?_
    intro hS
    refine wpAnyH_take (i := 0) (oi := { dst := some 20, op := Go.Op.load 26 (Go.Operand.tmp 3), type := 26, pos := "canon.go:54", after := #[], guard := none }) (v := .agg #[.int .u64 k0, .int .u64 k1, .int .u64 m]) rfl (by kernel_rfl) (by kernel_rfl) (by kernel_rfl) (fun _ _ _ h => by cases h.1) (Or.inl ⟨by rfl, fun w hSw => ?_⟩) hS ?_
    · go_split_ands
      go_simp
    try simp only [Act.put, List.setIfInBounds_toArray, List.set_cons_zero, List.set_cons_succ]
    refine wpAnyH_take (i := 1) (oi := { dst := some 21, op := Go.Op.move (Go.Operand.tmp 8), type := 29, pos := "canon.go:54", after := #[], guard := none }) (v := .pointer (some ⟨kd, 0, none⟩)) rfl (by kernel_rfl) (by kernel_rfl) (by kernel_rfl) (fun _ _ _ h => by cases h.1) (Or.inl ⟨by rfl, fun w hSw => ?_⟩) hS ?_
    · go_split_ands
      go_simp
    try simp only [Act.put, List.setIfInBounds_toArray, List.set_cons_zero, List.set_cons_succ]
    refine wpAnyH_take (i := 2) (oi := { dst := some 22, op := Go.Op.load 124 (Go.Operand.tmp 5), type := 124, pos := "canon.go:54", after := #[], guard := none }) (v := .slice A n c) rfl (by kernel_rfl) (by kernel_rfl) (by kernel_rfl) (fun _ _ _ h => by cases h.1) (Or.inl ⟨by rfl, fun w hSw => ?_⟩) hS ?_
    · go_split_ands
      go_simp
    try simp only [Act.put, List.setIfInBounds_toArray, List.set_cons_zero, List.set_cons_succ]
    refine wpAnyH_take (i := 3) (oi := { dst := some 23, op := Go.Op.move (Go.Operand.tmp 7), type := 3, pos := "canon.go:54", after := #[], guard := none }) (v := .int .i64 i) rfl (by kernel_rfl) (by kernel_rfl) (by kernel_rfl) (fun _ _ _ h => by cases h.1) (Or.inl ⟨by rfl, fun w hSw => ?_⟩) hS ?_
    · go_split_ands
      go_simp
    try simp only [Act.put, List.setIfInBounds_toArray, List.set_cons_zero, List.set_cons_succ]
    refine wpAnyH_ready (rs := [4]) (by kernel_rfl) (by simp) ?_
    refine AllReadyH.cons (o := { dst := some 24, op := Go.Op.call { callee := Go.Callee.value (Go.Operand.func 98), args := #[Go.Operand.tmp 22, Go.Operand.tmp 23], argTypes := #[124, 3] }, type := 124, pos := "canon.go:54", after := #[{ on := 2, ground := Go.Ground.data }, { on := 3, ground := Go.Ground.data }], guard := none }) rfl (fun K hK => ?_) AllReadyH.nil
    go_simp
    refine (kt _ ho).mono ?_
    rintro e wC ⟨v2, rfl, ho2, hBC⟩
    go_wp2_with fail
    have hSn := keepS2 hS hBC
    refine hK.out _ _ hSn (fun _ => ?_)
    clear hK K hS
    try simp only [Act.put, List.setIfInBounds_toArray, List.set_cons_zero, List.set_cons_succ]
    have hS := hSn
    clear hSn
    have hB2 := hB2.trans (hBC.mono hB2.size)
    replace hkd := NdR.below' _ hkd hBC
    refine wpAnyH_ready (rs := [5]) (by kernel_rfl) (by simp) ?_
    refine AllReadyH.cons (o := { dst := some 25, op := Go.Op.call { callee := Go.Callee.value (Go.Operand.func 37), args := #[Go.Operand.tmp 20, Go.Operand.tmp 21, Go.Operand.tmp 24], argTypes := #[26, 29, 124] }, type := 4, pos := "canon.go:54", after := #[{ on := 0, ground := Go.Ground.data }, { on := 1, ground := Go.Ground.data }, { on := 4, ground := Go.Ground.data }, { on := 4, ground := Go.Ground.chain }], guard := none }) rfl (fun K hK => ?_) AllReadyH.nil
    go_simp
    refine (kr _ _ hkd.out (own0 ho2)).mono ?_
    rintro e wD ⟨rfl, hBD⟩
    go_wp2_with fail
    have hSn := keepS2 hS hBD
    refine hK.out _ _ hSn (fun _ => ?_)
    clear hK K hS
    try simp only [Act.put, List.setIfInBounds_toArray, List.set_cons_zero, List.set_cons_succ]
    have hS := hSn
    clear hSn
    have hB2 := hB2.trans (hBD.mono hB2.size)
    refine wpAnyH_take (i := 6) (oi := { dst := some 26, op := Go.Op.unOp Go.UnOp.not 4 (Go.Operand.tmp 25), type := 4, pos := "canon.go:54", after := #[{ on := 5, ground := Go.Ground.data }], guard := none }) (v := .bool (!g)) rfl (by kernel_rfl) (by kernel_rfl) (by kernel_rfl) (fun _ _ _ h => by cases h.1) (Or.inl ⟨by rfl, fun w hSw => ?_⟩) hS ?_
    · go_split_ands
      go_simp
    try simp only [Act.put, List.setIfInBounds_toArray, List.set_cons_zero, List.set_cons_succ]
    refine wpAnyH_done (by kernel_rfl) ?_ _
    refine ⟨rfl, ?_⟩
    clear hS kr kt hS0 ho ho2 hBC hBD hkd
    have hN3 : N3 ≤ W.heap.size := by
      have h1 := HBB.out.size
      have h2 := HB1.out.size
      omega
    have b6 := b6.below hB2
    have y6 : wD.cell? ⟨N6, 0, none⟩ = some (.bool false) := b6.cell 0
    have f6 := b6.frozen 0
    have F6 := Lib.hid (b6.set_ 0 (.bool false))
    have HX := Lib.hid hB2
    have HN3 := Lib.hid hN3
    have H36 := Lib.hid h36
    clear b6 hB2 hN3 h36 hp hi hd32 hN hB hz0 b3 b5 y4
    cases g
    · gi_wp2
      exact ⟨F6.out, (HX.out.mono HN3.out).setCell (p := ⟨N6, 0, none⟩) H36.out _, (keeps_of_below HX.out).trans (KeepsOthers.setCell _ _ _)⟩
    · gi_wp2
      exact HX.out
  case done =>
    rintro D ys W hD rfl ⟨hE, hB1⟩ hK
    have b6 := b6.below hB1
    have y6 := b6.cell 0
    have f6 := b6.frozen 0
    obtain rfl : r = true := by
      rw [HR.out]
      exact kidsB_true fun c hc hs => hE ⟨c, hc, by rw [(bits_nodes K).bit c hc, hs]⟩ (Its.elsS_mem _ _)
    have F6 := b6.set_ 0 (.bool true)
    have hK' := (KeepsOthers.setCell W ⟨N6, 0, none⟩ (.bool true)).same D _ hK rfl
    have D6 := Lib.hid ((F6.own (grownBy_putObj' _ D (.deferred none)) (fun r e => by cases e; exact ⟨_, hK', rfl⟩)).cell 0)
    have hB2 := (hB.trans (hB1.mono (by rw [← hz0]; exact hB.size))).setCell (p := ⟨N6, 0, none⟩) h36 (.bool true)
    have hB3 := Lib.hid (hB2.trans (belowK_b (w := w) (by rw [hz0]; exact Nat.le_refl _) _ D _ (.deferred none) (by rw [hz0]; have := HB.out.size; omega) hK' rfl rfl))
    have HKK := Lib.hid hK'
    have HZ := Lib.hid hz0
    clear F6 hK' hB2 hE hKb b7 hK hB1 b3 b5 hN ho hd32 hB h36 y4 hp b6 HR HK hz0
    gi_wp2
    refine ⟨by simp, .inl ⟨_, _, rfl, run_takeDeferred HKK.out, ?_⟩⟩
    refine ⟨.bool true, ?_, rfl, by rw [HZ.out]; exact hB3.out⟩
    simp [results, Tryz.f66, go_sem, D6.out]
  case stop =>
    rintro D c' pre W hD hpre ⟨⟨⟨rfl, rfl⟩, h6⟩, hB1⟩ hK
    have D6 := Lib.hid ((h6.own (grownBy_putObj' _ D (.deferred none)) (fun r e => by cases e; exact ⟨_, hK, rfl⟩)).cell 0)
    have hB3 := Lib.hid (hB1.trans (belowK_b (w := w) (by rw [hz0]; exact Nat.le_refl _) _ D _ (.deferred none) (by rw [hz0]; have := HB.out.size; omega) hK rfl rfl))
    have HZ := Lib.hid hz0
    have HKK := Lib.hid hK
    clear h6 hB1 hKb b7 hK b3 b5 hN ho hd32 hB h36 y4 hp b6 HK hz0
    gi_wp2
    refine ⟨by simp, .inl ⟨_, _, rfl, run_takeDeferred HKK.out, ?_⟩⟩
    refine ⟨.bool false, ?_, rfl, by rw [HZ.out]; exact hB3.out⟩
    simp [results, Tryz.f66, go_sem, D6.out]
end Go.Proofs.YtchimfgbdfmegaaGreat
