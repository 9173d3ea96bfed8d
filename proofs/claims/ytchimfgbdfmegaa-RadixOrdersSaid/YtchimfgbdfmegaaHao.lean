/- Bytes that are appended: numbers, texts; the program's and the reference's. -/
import Derived.Test.YtchimfgbdfmegaaHab
import Derived.Lib.AppendStr
import Derived.Lib.ConvBytes
import Derived.ArgAppend
import Derived.Deep.AppendLies
import Derived.Laws.NewBlocks
import Derived.BigQuiet
import Derived.Lib.SliceRun
import Derived.Test.YtchimfgbdfmegaaProg
import Derived.WalkKit
import Derived.Lib.Hide
import Derived.Deep.QuietTactic
import Derived.RangeFuncNested
import Derived.RangeFuncBound
import Derived.RangeFuncCalls
import Derived.RangeFuncLeaves
import Derived.RangeFuncBox
import Derived.Shelf.Abstract
import Derived.Shelf.RegionOpen
import Derived.OwnWalkIn
import Derived.TacticsInMore
import Derived.LoopNIn
import Derived.LoopIn
import Derived.Maps.AppendAt
import Derived.Laws.OwnMore
import Derived.Laws.Rows
namespace Go.Proofs.Ytchimfgbdfmegaa
open Go.RowKit Go.Lib
set_option linter.unusedVariables false
set_option linter.unusedSimpArgs false
set_option maxRecDepth 100000
/-- the cells of an owned row: those of its block -/
theorem own_blkZ {w : World} {base : Nat} {e : TypeId} {size n : Nat} {v : Value} {xs : List Value} (h : w.ownsRow base e size v n xs) (hn : 0 < n) :
    ∃ g cap cur, v = .slice (some ⟨g, 0, none⟩) n cap ∧ base ≤ g ∧ Blk w g e cur ∧ n ≤ cap ∧ cap ≤ maxLen ∧ cur.size = cap * size ∧ cur.toList.take (n * size) = xs := by
  rcases h.2 with ⟨_, h0⟩ | ⟨g, cap, cur, h1, h2, h3, h4⟩
  · omega
  · exact ⟨g, cap, cur, h1, h2, h3, h4⟩
theorem own_formN {w : World} {base ty sz n : Nat} {v : Value} {xs : List Value} (h : w.ownsRow base ty sz v n xs) : ∃ A c, v = .slice A n c := by
  rcases h.2 with ⟨e, e0⟩ | ⟨g, cap, cur, e, _⟩
  · exact ⟨none, 0, by rw [e, e0]⟩
  · exact ⟨_, _, e⟩
set_option linter.unusedVariables false
set_option maxRecDepth 100000
set_option linter.unusedSimpArgs false
set_option maxRecDepth 100000
def twoB (n : Nat) : List Nat := [n % 256, n / 256 % 256]
def fourB (n : Nat) : List Nat := [n % 256, n / 256 % 256, n / 65536 % 256, n / 16777216 % 256]
def strB (s : ByteArray) : List Nat := s.data.toList.map UInt8.toNat
def textB (s : ByteArray) : List Nat := twoB s.size ++ strB s
theorem strB_len (s : ByteArray) : (strB s).length = s.size := by
  unfold strB
  rw [List.length_map]
  rfl
def ubs (L : List Nat) : List Value := L.map fun n : Nat => Value.int .u8 n
/-- a row of bytes of one's own -/
def OwnB (base : Nat) (w : World) (v : Value) (L : List Nat) : Prop := w.ownsRow base 5 1 v L.length (ubs L)
theorem ubs_len (L : List Nat) : (ubs L).length = L.length := by simp [ubs]
theorem ubs_app (L M : List Nat) : ubs (L ++ M) = ubs L ++ ubs M := by simp [ubs]
theorem OwnB.nil (base : Nat) (w : World) : OwnB base w (.slice none 0 0) [] := ⟨rfl, .inl ⟨rfl, rfl⟩⟩
theorem below_drewK (w : World) (k : Nat) : Below w.heap.size w (w.drewN k) := ⟨rfl, rfl, rfl, Nat.le_refl _, fun _ _ => rfl⟩
theorem OwnB.below {base : Nat} {w w' : World} {v : Value} {L : List Nat} (h : OwnB base w v L) (hb : Below w.heap.size w w') : OwnB base w' v L := own_keep h (Keep.of_below (X := []) hb) (by simp)
theorem info5 : (Try.prog.info? 5).map (fun i => (i.zero, i.size, i.bytes)) = some (some (.int .u8 0), 1, 1) := by kernel_rfl
theorem zsz_u8 : (Value.cells (.int .u8 0)).size = 1 := by simp [Value.cells]
def numB (x s : Nat) : List Nat := (List.range s).map fun i => x / 2 ^ (8 * i) % 256
theorem numB_succ (x s : Nat) : numB x (s + 1) = numB x s ++ [x / 2 ^ (8 * s) % 256] := by simp [numB, List.range_succ]
theorem numB_len (x s : Nat) : (numB x s).length = s := by simp [numB]
theorem numB_two (x : Nat) : numB x 2 = twoB x := by simp [numB, twoB, List.range_succ]
theorem numB_four (x : Nat) : numB x 4 = fourB x := by simp [numB, fourB, List.range_succ]
theorem textB_len (s : ByteArray) : (textB s).length = s.size + 2 := by simp [textB, strB_len, twoB]
theorem str_cells (s : ByteArray) : strCells s = ubs (strB s) := by simp [strCells, ubs, strB]
/-- a row whose room is all taken: an append to it makes a row of its own -/
def FullB (w : World) (v : Value) (L : List Nat) : Prop := (v = .slice none 0 0 ∧ L = []) ∨ ∃ g, v = .slice (some ⟨g, 0, none⟩) L.length L.length ∧ ∀ b, (some ⟨g, 0, none⟩ : Option Addr) = some b → ∀ j u, (ubs L)[j]? = some u → w.cell? (b.add j) = some u
theorem FullB.nil (w : World) : FullB w (.slice none 0 0) [] := .inl ⟨rfl, rfl⟩
theorem OwnB.low {base base' : Nat} {w : World} {v : Value} {L : List Nat} (h : OwnB base w v L) (hb : base' ≤ base) : OwnB base' w v L := by
  refine ⟨h.1, ?_⟩
  rcases h.2 with h1 | ⟨g, cap, cur, h1, h2, h3⟩
  · exact .inl h1
  · exact .inr ⟨g, cap, cur, h1, Nat.le_trans hb h2, h3⟩
/-- what a call that makes bytes of its own leaves -/
def MadeB (L : List Nat) (w : World) (e : Ending) (w' : World) : Prop := ∃ v, e = .returned v ∧ OwnB w.heap.size w' v L ∧ Below w.heap.size w w'
set_option maxHeartbeats 4000000 in
theorem withNumber_full (v : Value) (L : List Nat) (x s : Nat) (w : World) (hf : FullB w v L) (hL : L.length ≤ 1000000000000) (hs : s ≤ 4) (hs1 : 1 ≤ s) (hx : x < 4294967296) :
    Calls Try.prog 74 #[v, .int .i64 x, .int .i64 s] w (MadeB (L ++ numB x s) w) := by
  obtain ⟨i5, hi5, hy50, hy51, hy52⟩ := info_parts info5
  go_enter Try.func74, Try.ntmps74
  go_wp2_with fail
  go_loopw [0, 9] (fun v0 vi wr => ∃ j : Nat, j ≤ s ∧ vi = .int .i64 j ∧ ((j = 0 ∧ v0 = v ∧ wr = w) ∨ (1 ≤ j ∧ OwnB w.heap.size wr v0 (L ++ numB x j) ∧ Below w.heap.size w wr))) (fun v0 vi wr => s - (intOf vi).toNat)
  case atStart => exact ⟨0, by omega, rfl, .inl ⟨rfl, rfl, rfl⟩⟩
  case round =>
    obtain ⟨j, hj, rfl, hc⟩ := hrel
    rcases hc with ⟨rfl, rfl, rfl⟩ | ⟨hj1, ho, hB⟩
    · have L1 : (0 : Int) < (s : Int) := by omega
      have LV : ((x : Int) % 256) = ((x % 256 : Nat) : Int) := by push_cast; rfl
      have hBl := (Below.refl _ wr).alloc (Nat.le_refl _) (.cells #[.int .u8 ((x : Int) % 256)] 5)
      have hnb : (wr.alloc (.cells #[.int .u8 ((x : Int) % 256)] 5)).heap[wr.heap.size]? = some (.cells #[.int .u8 ((x : Int) % 256)] 5 (0, 0)) := heap_alloc_new wr _
      have fin : ∀ (v' : Value) (wa : World), wa.ownsRow (wr.alloc (.cells #[.int .u8 ((x : Int) % 256)] 5)).heap.size 5 1 v' (L.length + 1) (ubs L ++ [.int .u8 ((x : Int) % 256)]) → (wr.alloc (.cells #[.int .u8 ((x : Int) % 256)] 5)).grownBy wa none → OwnB wr.heap.size wa v' (L ++ numB x 1) ∧ Below wr.heap.size wr wa := fun v' wa h hg => by
        refine ⟨?_, hBl.grown hg hBl.size (fun k hk => by cases hk)⟩
        have e1 : ubs (L ++ numB x 1) = ubs L ++ [.int .u8 ((x : Int) % 256)] := by rw [ubs_app, LV]; simp [numB, ubs]
        refine OwnB.low (base := (wr.alloc (.cells #[.int .u8 ((x : Int) % 256)] 5)).heap.size) ?_ hBl.size
        unfold OwnB
        rw [e1, List.length_append, numB_len]
        exact h
      have Hfin := Lib.hid fin
      rcases hf with ⟨hv, rfl⟩ | ⟨g, hv, hA⟩
      · have HV := Lib.hid hv
        clear fin hBl LV hv
        go_wp2_with (at_builtin; refine wpList_append_grows _ rfl _ _ 22 rfl 5 i5 _ 1 1 Try.underlying22 hi5 hy50 hy51 hy52 zsz_u8 (by decide) none 0 0 [] HV.out (fun _ => ⟨rfl, rfl⟩) rfl (fun b e => by cases e) ⟨wr.heap.size, 0, none⟩ 1 1 [.int .u8 ((x : Int) % 256)] rfl rfl (World.news_of_block hnb) (by simp [Value.oneCell']) (by omega) (by unfold maxLen; omega) (by omega) ?_; intro v' wa hown hg)
        have h := Hfin.out v' wa hown hg
        exact ⟨⟨1, by omega, by go_num, .inr ⟨by omega, h.1, h.2⟩⟩, by simp [intOf]; omega⟩
      · have hA' : ∀ b, (some ⟨g, 0, none⟩ : Option Addr) = some b → ∀ j u, (ubs L)[j]? = some u → (wr.alloc (.cells #[.int .u8 ((x : Int) % 256)] 5)).cell? (b.add j) = some u := fun b e j u hu => (hBl.cell (World.block_lt_of_cell? wr _ (hA b e j u hu))).trans (hA b e j u hu)
        have HV := Lib.hid hv
        clear fin hBl LV hA hv
        go_wp2_with (at_builtin; refine wpList_append_grows _ rfl _ _ 22 rfl 5 i5 _ 1 1 Try.underlying22 hi5 hy50 hy51 hy52 zsz_u8 (by decide) (some ⟨g, 0, none⟩) L.length L.length (ubs L) HV.out (fun e => by cases e) (by rw [ubs_len]; omega) hA' ⟨wr.heap.size, 0, none⟩ 1 1 [.int .u8 ((x : Int) % 256)] rfl rfl (World.news_of_block hnb) (by simp [Value.oneCell']) (by omega) (by unfold maxLen; omega) (by omega) ?_; intro v' wa hown hg)
        have h := Hfin.out v' wa hown hg
        exact ⟨⟨1, by omega, by go_num, .inr ⟨by omega, h.1, h.2⟩⟩, by simp [intOf]; omega⟩
    · by_cases hlt : j < s
      · have L1 : (j : Int) < (s : Int) := by omega
        have L2 : IntKind.i64.wrap ((j : Int) + 1) = ((j + 1 : Nat) : Int) := by rw [IntWalk.i64_in _ (by omega)]; omega
        have L3 : IntKind.i64.wrap (8 * (j : Int)) = ((8 * j : Nat) : Int) := by rw [IntWalk.i64_in _ (by omega)]; omega
        have LV : ((x : Int) / 2 ^ (8 * j) % 256) = ((x / 2 ^ (8 * j) % 256 : Nat) : Int) := by push_cast; rfl
        have hlen : (L ++ numB x j).length = L.length + j := by rw [List.length_append, numB_len]
        have hBl := (Below.refl _ wr).alloc (Nat.le_refl _) (.cells #[.int .u8 ((x : Int) / 2 ^ (8 * j) % 256)] 5)
        have hrow : (wr.alloc (.cells #[.int .u8 ((x : Int) / 2 ^ (8 * j) % 256)] 5)).ownsRow w.heap.size 5 1 u0 (L.length + j) (ubs (L ++ numB x j)) := by rw [← hlen]; exact own_keep ho (Keep.of_below (X := []) hBl) (by simp)
        have hnb : (wr.alloc (.cells #[.int .u8 ((x : Int) / 2 ^ (8 * j) % 256)] 5)).heap[wr.heap.size]? = some (.cells #[.int .u8 ((x : Int) / 2 ^ (8 * j) % 256)] 5 (0, 0)) := heap_alloc_new wr _
        have hsz := Nat.le_trans hB.size hBl.size
        have HB := Lib.hid (hB.trans (hBl.mono hB.size))
        have LVh := Lib.hid LV
        have Hlen := Lib.hid hlen
        clear hB ho hBl LV hlen hf
        go_wp2_with (at_builtin; refine wpList_append_own_at _ rfl _ _ 22 rfl w.heap.size 5 i5 _ 1 1 Try.underlying22 hi5 hy50 hy51 hy52 zsz_u8 (by decide) _ _ _ rfl hrow ⟨wr.heap.size, 0, none⟩ 1 1 [.int .u8 ((x : Int) / 2 ^ (8 * j) % 256)] rfl rfl (World.news_of_block hnb) (by simp [Value.oneCell']) (by unfold maxLen; omega) (by omega) hsz ?_; intro v' wa hown' hgrow hnil hat)
        replace hgrow : (wr.alloc (.cells #[.int .u8 ((x : Int) / 2 ^ (8 * j) % 256)] 5)).grownBy wa u0.ownBlock := hgrow
        refine ⟨⟨j + 1, by omega, by go_num, .inr ⟨by omega, ?_, HB.out.grown hgrow (HB.out.size) (own_ge hrow)⟩⟩, by simp [intOf]; omega⟩
        have e1 : L ++ numB x (j + 1) = (L ++ numB x j) ++ [x / 2 ^ (8 * j) % 256] := by rw [numB_succ, List.append_assoc]
        unfold OwnB
        rw [e1, ubs_app, List.length_append, Hlen.out]
        have e2 : ubs [x / 2 ^ (8 * j) % 256] = [.int .u8 ((x : Int) / 2 ^ (8 * j) % 256)] := by rw [LVh.out]; rfl
        rw [e2]
        exact hown'
      · obtain rfl : j = s := by omega
        have G : ¬ ((j : Int) < (j : Int)) := by omega
        clear hf
        go_wp2_with fail
        go_ret
        exact ⟨_, rfl, ho, hB⟩
set_option maxHeartbeats 4000000 in
theorem withText_full (v : Value) (L : List Nat) (s : ByteArray) (w : World) (hf : FullB w v L) (hL : L.length ≤ 100000000000) (hs : s.size ≤ 1000000) :
    Calls Try.prog 47 #[v, .string s] w (MadeB (L ++ textB s) w) := by
  obtain ⟨i5, hi5, hy50, hy51, hy52⟩ := info_parts info5
  have kn := withNumber_full v L s.size 2 w hf (by omega) (by omega) (by omega) (by omega)
  have L1 : IntKind.i64.wrap (s.size : Int) = (s.size : Int) := by rw [IntWalk.i64_in _ (by omega)]
  clear hf
  go_enter Try.func47, Try.ntmps47
  go_wp2_with fail
  refine kn.mono ?_
  rintro e w1 ⟨v1, rfl, ho, hB⟩
  have hlen : (L ++ numB s.size 2).length = L.length + 2 := by rw [List.length_append, numB_len]
  have hrow : w1.ownsRow w.heap.size 5 1 v1 (L.length + 2) (ubs (L ++ numB s.size 2)) := by rw [← hlen]; exact ho
  have hsz := hB.size
  have HB := Lib.hid hB
  have Hlen := Lib.hid hlen
  clear kn ho hB hlen
  go_wp2_with (at_builtin; refine wpList_append_own_string _ rfl _ _ 22 9 rfl w.heap.size 5 i5 Try.underlying22 Try.underlying9 hi5 hy50 hy51 hy52 _ _ _ rfl hrow s rfl (by unfold maxLen; omega) (by omega) hsz ?_; intro v' wa hown' hgrow hnil)
  replace hgrow : w1.grownBy wa v1.ownBlock := hgrow
  go_ret
  refine ⟨_, rfl, ?_, HB.out.grown hgrow hsz (own_ge hrow)⟩
  have e1 : L ++ textB s = (L ++ numB s.size 2) ++ strB s := by unfold textB; rw [numB_two, List.append_assoc]
  unfold OwnB
  rw [e1, ubs_app, List.length_append, Hlen.out, strB_len, ← str_cells]
  exact hown'
theorem build2 (ev : Operand → Value) (o : Oper) (s t : Operand) (a b : Int) (w : World) (ho : o.op = .buildSlice 22 2 #[(0, s), (1, t)]) (hs : ev s = .int .u8 a) (ht : ev t = .int .u8 b) :
    (execOp ev o).run Try.prog w = .ok (.value (.slice (some ⟨w.heap.size, 0, none⟩) 2 2)) (w.alloc (.cells #[.int .u8 a, .int .u8 b] 5)) := by
  unfold execOp
  simp only [ho, List.map_toArray, List.map_cons, List.map_nil, hs, ht]
  kernel_rfl
/-- a row that was just made, whole -/
theorem OwnB.new {base : Nat} {w : World} {L : List Nat} {cs : Array Value} {n : Nat} (hb : base ≤ w.heap.size) (hn : L.length = n) (hm : n ≤ maxLen) (he : cs.toList = ubs L) : OwnB base (w.alloc (.cells cs 5)) (.slice (some ⟨w.heap.size, 0, none⟩) n n) L := by
  subst hn
  refine ⟨by rw [ubs_len]; simp, .inr ⟨w.heap.size, L.length, cs, rfl, hb, heap_alloc_new w _, Nat.le_refl _, hm, ?_, ?_⟩⟩
  · have := congrArg List.length he
    rw [ubs_len] at this
    simpa using this
  · rw [he, Nat.mul_one, ← ubs_len, List.take_length]
theorem refTwo_any (n : Nat) (w : World) (hn : n < 9223372036854775808) : Calls Try.prog 48 #[.int .i64 n] w (MadeB (twoB n) w) := by
  have e1 : ((n : Int) % 256) = ((n % 256 : Nat) : Int) := by omega
  have e2 : ((n : Int) / 256 % 256) = ((n / 256 % 256 : Nat) : Int) := by omega
  have HE := Lib.hid (⟨e1, e2⟩ : ((n : Int) % 256) = ((n % 256 : Nat) : Int) ∧ ((n : Int) / 256 % 256) = ((n / 256 % 256 : Nat) : Int))
  clear e1 e2
  go_enter Try.func48, Try.ntmps48
  go_wp2_with (with_reducible refine wpList_runAt rfl _ rfl _ _ (build2 _ _ _ _ _ _ _ rfl rfl rfl) ?_)
  go_ret
  refine ⟨_, rfl, OwnB.new (Nat.le_refl _) rfl (by unfold maxLen; omega) ?_, (Below.refl _ w).alloc (Nat.le_refl _) _⟩
  rw [HE.out.1, HE.out.2]
  rfl
theorem below_conv (w : World) (s : ByteArray) : Below w.heap.size w (bytesWorld w 5 s) := ⟨rfl, rfl, rfl, by rw [bytesWorld_size]; omega, fun i hi => bytesWorld_at_old w 5 s i hi⟩
theorem strB_get (s : ByteArray) (j : Nat) (h : j < s.size) : (strB s)[j]? = some (s.data.toList.getD j 0).toNat := by
  unfold strB
  have hl : j < s.data.toList.length := h
  rw [List.getElem?_map, List.getElem?_eq_getElem hl, Option.map_some, List.getD_eq_getElem?_getD, List.getElem?_eq_getElem hl, Option.getD_some]
set_option maxHeartbeats 4000000 in
theorem refText_any (s : ByteArray) (w : World) (hs : s.size ≤ 1000000) : Calls Try.prog 13 #[.string s] w (MadeB (textB s) w) := by
  obtain ⟨i5, hi5, hy50, hy51, hy52⟩ := info_parts info5
  have kt := refTwo_any s.size w (by omega)
  have L1 : IntKind.i64.wrap (s.size : Int) = (s.size : Int) := by rw [IntWalk.i64_in _ (by omega)]
  go_enter Try.func13, Try.ntmps13
  go_wp2_with fail
  refine kt.mono ?_
  rintro e w1 ⟨v1, rfl, ho, hB⟩
  have hcv : (convert 9 22 (.string s)).run Try.prog w1 = .ok (.slice (some ⟨w1.heap.size, 0, none⟩) s.size (grownCap w1 s.size 0 5)) (bytesWorld w1 5 s) := Go.Lib.run_convert_string_bytes w1 9 22 5 s Try.underlying9 Try.underlying22 Try.underlying5
  have hBc := below_conv w1 s
  have hrow : (bytesWorld w1 5 s).ownsRow w.heap.size 5 1 v1 2 (ubs (twoB s.size)) := own_keep ho (Keep.of_below (X := []) hBc) (by simp)
  have hnews : ∀ j u, (ubs (strB s))[j]? = some u → (bytesWorld w1 5 s).cell? ((⟨w1.heap.size, 0, none⟩ : Addr).add j) = some u := fun j u hu => by
    have hadd : (⟨w1.heap.size, 0, none⟩ : Addr).add j = ⟨w1.heap.size, j, none⟩ := by unfold Addr.add; split <;> simp_all
    have hj : j < s.size := by
      have := (List.getElem?_eq_some_iff.1 hu).1
      rwa [ubs_len, strB_len] at this
    rw [hadd, bytesWorld_cell w1 5 s j hj]
    unfold ubs at hu
    rw [List.getElem?_map, strB_get s j hj] at hu
    simpa using hu
  have hsz := Nat.le_trans hB.size hBc.size
  have HB := Lib.hid (hB.trans (hBc.mono hB.size))
  have hone : ∀ u ∈ ubs (strB s), u.oneCell' = true := fun u hu => by
    unfold ubs at hu
    obtain ⟨n, _, rfl⟩ := List.mem_map.1 hu
    rfl
  have hlen : (ubs (strB s)).length = s.size * 1 := by rw [ubs_len, strB_len]; omega
  clear kt ho hB hBc
  go_wp2_with (at_builtin; refine wpList_append_own_at _ rfl _ _ 22 rfl w.heap.size 5 i5 _ 1 1 Try.underlying22 hi5 hy50 hy51 hy52 zsz_u8 (by decide) _ _ _ rfl hrow ⟨w1.heap.size, 0, none⟩ s.size _ (ubs (strB s)) rfl hlen hnews hone (by unfold maxLen; omega) (by omega) hsz ?_; intro v' wa hown' hgrow hnil hat)
  replace hgrow : (bytesWorld w1 5 s).grownBy wa v1.ownBlock := hgrow
  go_ret
  refine ⟨_, rfl, ?_, HB.out.grown hgrow hsz (own_ge hrow)⟩
  unfold OwnB textB
  rw [List.length_append, strB_len, ubs_app]
  exact hown'
theorem take_step {L M : List Nat} {k : Nat} (hl : L.length = M.length) (hk : k < L.length) (h : L.take k = M.take k) (he : L[k]? = M[k]?) : L.take (k + 1) = M.take (k + 1) := by
  rw [List.take_add_one, List.take_add_one, h, he]
theorem OwnB.drewN {base : Nat} {w : World} {v : Value} {L : List Nat} (h : OwnB base w v L) (n : Nat) : OwnB base (w.drewN n) v L := h.below (below_drewK w n)
theorem OwnB.at {base : Nat} {w : World} {A : Option Addr} {n c : Nat} {L : List Nat} (h : OwnB base w (.slice A n c) L) (k : Nat) (hk : k < L.length) : ∃ g, A = some ⟨g, 0, none⟩ ∧ w.cell? ⟨g, k, none⟩ = some (.int .u8 (L[k] : Nat)) := by
  obtain ⟨g, cap, cur, e, -⟩ := own_blkZ h (by omega)
  simp only [Value.slice.injEq] at e
  obtain ⟨rfl, rfl, rfl⟩ := e
  refine ⟨g, rfl, ?_⟩
  have h' : w.ownsRow base 5 1 (.slice (some ⟨g, 0, none⟩) L.length c) L.length (ubs L) := h
  rw [h'.cellAt k (by omega)]
  simp [ubs, hk]
set_option maxHeartbeats 4000000 in
theorem refSameB_any (base base' : Nat) (v v' : Value) (L M : List Nat) (w : World) (hA : OwnB base w v L) (hB : OwnB base' w v' M) (hL : L.length ≤ 1000000000) :
    Calls Try.prog 11 #[v, v'] w fun e w' => e = .returned (.bool (decide (L = M))) ∧ ∃ n, w' = w.drewN n := by
  obtain ⟨A, ca, rfl⟩ := own_formN hA
  obtain ⟨B, cb, rfl⟩ := own_formN hB
  obtain ⟨n, hxs⟩ : ∃ n, n = L.length := ⟨_, rfl⟩
  obtain ⟨m, hys⟩ : ∃ m, m = M.length := ⟨_, rfl⟩
  rw [← hxs, ← hys]
  rw [← hxs] at hL hA
  rw [← hys] at hB
  have HX := Lib.hid hxs
  have HY := Lib.hid hys
  have HA := Lib.hid hA
  have HB := Lib.hid hB
  clear hxs hys hA hB
  by_cases hnm : n = m
  · subst hnm
    go_enter Try.func11, Try.ntmps11
    go_wp2_with fail
    go_loopw [13] (fun i wr => ∃ k : Nat, k ≤ n ∧ i = .int .i64 k ∧ Hid (L.take k = M.take k) ∧ ∃ q, wr = w.drewN q) (fun i wr => n - (intOf i).toNat)
    case atStart => exact ⟨0, by omega, rfl, Lib.hid rfl, 0, rfl⟩
    case round =>
      obtain ⟨k, hk, rfl, hE, q, rfl⟩ := hrel
      by_cases hlt : k < n
      · have hkL : k < L.length := by rw [← HX.out]; exact hlt
        have hkM : k < M.length := by rw [← HY.out]; exact hlt
        obtain ⟨ga, rfl, a0⟩ := (HA.out.drewN q).at k hkL
        obtain ⟨gb, rfl, b0⟩ := (HB.out.drewN q).at k hkM
        have hd : ∀ k, (w.drewN q).drewN k = w.drewN (q + k) := fun k => by simp [World.drewN, Nat.add_assoc]
        have L1' : (k : Int) < (n : Int) := by omega
        have L2' : IntKind.i64.wrap ((k : Int) + 1) = ((k + 1 : Nat) : Int) := by rw [IntWalk.i64_in _ (by omega)]; omega
        generalize hW : w.drewN q = W at *
        have HW := Lib.hid hW
        have HD := Lib.hid hd
        clear hd hW
        by_cases he : L[k] = M[k]
        · have S := Lib.hid (take_step (by rw [← HX.out, ← HY.out]) hkL hE.out (by rw [List.getElem?_eq_getElem hkL, List.getElem?_eq_getElem hkM, he]))
          rw [he] at a0
          clear he
          generalize M[k] = x at *
          go_wp2_with fail
          go_quiet (fail)
          go_wp2_with fail
          exact ⟨⟨k + 1, by omega, by go_num, S, q + nq, HD.out nq⟩, by simp [intOf]; omega⟩
        · have S : Hid (L = M → False) := Lib.hid (by rintro rfl; exact he rfl)
          have F : ¬ ((L[k] : Nat) : Int) = ((M[k] : Nat) : Int) := by omega
          clear he
          generalize M[k] = x at *
          generalize L[k] = y at *
          go_wp2_with fail
          go_quiet (fail)
          go_wp2_with fail
          go_ret
          refine ⟨?_, q + nq, HD.out nq⟩
          rw [decide_eq_false S.out]; rfl
      · obtain rfl : k = n := by omega
        go_wp2_with fail
        go_ret
        have h := hE.out
        have : L = M := by
          rw [List.take_of_length_le (by rw [← HX.out]; omega), List.take_of_length_le (by rw [← HY.out]; omega)] at h
          exact h
        refine ⟨?_, q, rfl⟩
        rw [decide_eq_true this]; rfl
  · have : ¬ L = M := by
      rintro rfl; exact hnm (HX.out.trans HY.out.symm)
    rw [decide_eq_false this]
    have F1 : ¬ ((n : Int) = (m : Int)) := by omega
    go_enter Try.func11, Try.ntmps11
    go_wp2_with fail
    go_ret
    exact ⟨rfl, 0, rfl⟩
end Go.Proofs.Ytchimfgbdfmegaa
/- The empty node: what is read of it, and how it looks. -/
namespace Go.Proofs.Ytchimfgbdfmegaa
open Go.RowKit Go.Lib
set_option linter.unusedVariables false
set_option linter.unusedSimpArgs false
set_option maxRecDepth 100000
theorem inner_E (w : World) : Calls Try.prog 44 #[] w fun e w' => e = .returned (.pointer (some ⟨w.heap.size, 0, none⟩)) ∧ Blk w' w.heap.size 141 #[.pointer none, .bool false, .int .u32 0, .int .u32 0, .slice none 0 0, .slice none 0 0] ∧ Below w.heap.size w w' := by
  have hB := (Below.refl _ w).alloc (Nat.le_refl _) (.cells #[.pointer none, .bool false, .int .u32 0, .int .u32 0, .slice none 0 0, .slice none 0 0] 141)
  have hN := Blk.new w 141 #[.pointer none, .bool false, .int .u32 0, .int .u32 0, .slice none 0 0, .slice none 0 0]
  go_enter Try.func44, Try.ntmps44
  go_wp2_with fail
  go_ret
  exact ⟨rfl, hN, hB⟩
theorem text_any (L : List Nat) (A : Option Addr) (c : Nat) (s : ByteArray) (w : World) (hf : FullB w (.slice A L.length L.length) L) (hc : L.length ≤ c) (hL : L.length ≤ 100000000000) (hs : s.size ≤ 1000000) :
    Calls Try.prog 12 #[.slice A L.length c, .string s] w (MadeB (L ++ textB s) w) := by
  have kt := withText_full _ L s w hf hL hs
  clear hf
  obtain ⟨M, hM⟩ : ∃ M, M = L ++ textB s := ⟨_, rfl⟩
  rw [← hM] at kt ⊢
  clear hM
  generalize L.length = n at *
  go_enter Try.func12, Try.ntmps12
  go_wp2_with fail
  refine kt.mono ?_
  rintro e w1 ⟨v1, rfl, ho, hB⟩
  go_wp2_with fail
  go_ret
  exact ⟨_, rfl, ho, hB⟩
def NE (w : World) (b : Nat) : Prop := Blk w b 141 #[.pointer none, .bool false, .int .u32 0, .int .u32 0, .slice none 0 0, .slice none 0 0]
theorem NE.below {w w' : World} {b : Nat} (h : NE w b) (hB : Below w.heap.size w w') : NE w' b := (hB.block b h.lt).trans h
theorem NE.cells {w : World} {b : Nat} (h : NE w b) : w.cell? ⟨b, 1, none⟩ = some (.bool false) ∧ w.cell? ⟨b, 2, none⟩ = some (.int .u32 0) ∧ w.cell? ⟨b, 3, none⟩ = some (.int .u32 0) ∧ w.cell? ⟨b, 4, none⟩ = some (.slice none 0 0) ∧ w.cell? ⟨b, 5, none⟩ = some (.slice none 0 0) := by
  unfold NE Blk at h
  refine ⟨?_, ?_, ?_, ?_, ?_⟩ <;> simp [World.cell?, h]
theorem isBucket_E (b : Nat) (w : World) (h : NE w b) : Calls Try.prog 94 #[.pointer (some ⟨b, 0, none⟩)] w fun e w' => e = .returned (.bool false) ∧ w = w' := by
  obtain ⟨c1, c2, c3, c4, c5⟩ := h.cells
  clear h
  go_enter Try.func94, Try.ntmps94
  go_wp2_with fail
  go_ret
  exact ⟨rfl, rfl⟩
theorem data_E (b : Nat) (w : World) (h : NE w b) : Calls Try.prog 108 #[.pointer (some ⟨b, 0, none⟩)] w fun e w' => e = .returned (.int .u32 0) ∧ w = w' := by
  obtain ⟨c1, c2, c3, c4, c5⟩ := h.cells
  clear h
  go_enter Try.func108, Try.ntmps108
  go_wp2_with fail
  go_ret
  exact ⟨rfl, rfl⟩
theorem nodes_E (b : Nat) (w : World) (h : NE w b) : Calls Try.prog 109 #[.pointer (some ⟨b, 0, none⟩)] w fun e w' => e = .returned (.int .u32 0) ∧ w = w' := by
  obtain ⟨c1, c2, c3, c4, c5⟩ := h.cells
  clear h
  go_enter Try.func109, Try.ntmps109
  go_wp2_with fail
  go_ret
  exact ⟨rfl, rfl⟩
theorem clonePairs_nil (w : World) : Calls Try.prog 58 #[.slice none 0 0] w fun e w' => e = .returned (.slice none 0 0) ∧ w = w' := by
  have hnl := fun w => run_eql_slice_nil (P := Try.prog) w 64 34 none 0 0 0 0 Try.underlying64
  go_enter Try.func58, Try.ntmps58
  go_wp2_with fail
  go_ret
  exact ⟨rfl, rfl⟩
theorem cloneKids_nil (w : World) : Calls Try.prog 110 #[.slice none 0 0] w fun e w' => e = .returned (.slice none 0 0) ∧ w = w' := by
  have hnl := fun w => run_eql_slice_nil (P := Try.prog) w 137 91 none 0 0 0 0 Try.underlying137
  go_enter Try.func110, Try.ntmps110
  go_wp2_with fail
  go_ret
  exact ⟨rfl, rfl⟩
theorem pairs_E (b : Nat) (w : World) (h : NE w b) : Calls Try.prog 92 #[.pointer (some ⟨b, 0, none⟩)] w fun e w' => e = .returned (.slice none 0 0) ∧ w = w' := by
  obtain ⟨c1, c2, c3, c4, c5⟩ := h.cells
  have k := clonePairs_nil w
  clear h
  go_enter Try.func92, Try.ntmps92
  go_wp2_with fail
  refine k.mono ?_
  rintro e w' ⟨rfl, rfl⟩
  go_wp2_with fail
  go_ret
  exact ⟨rfl, rfl⟩
theorem kids_E (b : Nat) (w : World) (h : NE w b) : Calls Try.prog 93 #[.pointer (some ⟨b, 0, none⟩)] w fun e w' => e = .returned (.slice none 0 0) ∧ w = w' := by
  obtain ⟨c1, c2, c3, c4, c5⟩ := h.cells
  have k := cloneKids_nil w
  clear h
  go_enter Try.func93, Try.ntmps93
  go_wp2_with fail
  refine k.mono ?_
  rintro e w' ⟨rfl, rfl⟩
  go_wp2_with fail
  go_ret
  exact ⟨rfl, rfl⟩
/-- four bytes are appended to a row of one's own -/
theorem number_E (base : Nat) (v : Value) (L : List Nat) (s : Nat) (w : World) (ho : OwnB base w v L) (hb : base ≤ w.heap.size) (hL : L.length ≤ 1000) (hs : s ≤ 4) :
    Calls Try.prog 74 #[v, .int .i64 0, .int .i64 s] w fun e w' => ∃ v', e = .returned v' ∧ OwnB base w' v' (L ++ numB 0 s) ∧ Below base w w' := by
  obtain ⟨i5, hi5, hy50, hy51, hy52⟩ := info_parts info5
  go_enter Try.func74, Try.ntmps74
  go_wp2_with fail
  go_loopw [0, 9] (fun v0 vi wr => ∃ j : Nat, j ≤ s ∧ vi = .int .i64 j ∧ OwnB base wr v0 (L ++ numB 0 j) ∧ Below base w wr) (fun v0 vi wr => s - (intOf vi).toNat)
  case atStart => exact ⟨0, by omega, rfl, by simpa [numB] using ho, Below.refl _ _⟩
  case round =>
    clear ho
    obtain ⟨j, hj, rfl, ho, hB⟩ := hrel
    by_cases hlt : j < s
    · have L1 : (j : Int) < (s : Int) := by omega
      have L2 : IntKind.i64.wrap ((j : Int) + 1) = ((j + 1 : Nat) : Int) := by rw [IntWalk.i64_in _ (by omega)]; omega
      have L3 : IntKind.i64.wrap (8 * (j : Int)) = ((8 * j : Nat) : Int) := by rw [IntWalk.i64_in _ (by omega)]; omega
      have hlen : (L ++ numB 0 j).length = L.length + j := by rw [List.length_append, numB_len]
      have hBl := (Below.refl _ wr).alloc (Nat.le_refl _) (.cells #[.int .u8 0] 5)
      have hrow : (wr.alloc (.cells #[.int .u8 0] 5)).ownsRow base 5 1 u0 (L.length + j) (ubs (L ++ numB 0 j)) := by rw [← hlen]; exact own_keep ho (Keep.of_below (X := []) hBl) (by simp)
      have hnb : (wr.alloc (.cells #[.int .u8 0] 5)).heap[wr.heap.size]? = some (.cells #[.int .u8 0] 5 (0, 0)) := heap_alloc_new wr _
      have hsz := Nat.le_trans hb (Nat.le_trans hB.size hBl.size)
      have HB := Lib.hid (hB.trans (hBl.mono (Nat.le_trans hb hB.size)))
      have Hlen := Lib.hid hlen
      clear hB ho hBl hlen
      go_wp2_with (at_builtin; refine wpList_append_own_at _ rfl _ _ 22 rfl base 5 i5 _ 1 1 Try.underlying22 hi5 hy50 hy51 hy52 zsz_u8 (by decide) _ _ _ rfl hrow ⟨wr.heap.size, 0, none⟩ 1 1 [.int .u8 0] rfl rfl (World.news_of_block hnb) (by simp [Value.oneCell']) (by unfold maxLen; omega) (by omega) hsz ?_; intro v' wa hown' hgrow hnil hat)
      replace hgrow : (wr.alloc (.cells #[.int .u8 0] 5)).grownBy wa u0.ownBlock := hgrow
      refine ⟨⟨j + 1, by omega, by go_num, ?_, HB.out.grown hgrow (Nat.le_trans hb (HB.out.size)) (own_ge hrow)⟩, by simp [intOf]; omega⟩
      have e1 : L ++ numB 0 (j + 1) = (L ++ numB 0 j) ++ [0] := by rw [numB_succ, List.append_assoc]; simp
      unfold OwnB
      rw [e1, ubs_app, List.length_append, Hlen.out]
      exact hown'
    · obtain rfl : j = s := by omega
      have G : ¬ ((j : Int) < (j : Int)) := by omega
      go_wp2_with fail
      go_ret
      exact ⟨_, rfl, ho, hB⟩
end Go.Proofs.Ytchimfgbdfmegaa
/- Of the empty node. -/
namespace Go.Proofs.Ytchimfgbdfmegaa
open Go.RowKit Go.Lib
set_option linter.unusedVariables false
set_option linter.unusedSimpArgs false
set_option maxRecDepth 100000
set_option maxHeartbeats 4000000 in
theorem withHead_E (b : Nat) (w : World) (h : NE w b) :
    Calls Try.prog 91 #[.slice none 0 0, .pointer (some ⟨b, 0, none⟩)] w fun e w' => ∃ v L, e = .returned v ∧ OwnB w.heap.size w' v L ∧ L.length = 9 ∧ Below w.heap.size w w' := by
  obtain ⟨i5, hi5, hy50, hy51, hy52⟩ := info_parts info5
  have kb := isBucket_E b w h
  have HN := Lib.hid h
  have hBl := (Below.refl _ w).alloc (Nat.le_refl _) (.cells #[.int .u8 0] 5)
  have hnb : (w.alloc (.cells #[.int .u8 0] 5)).heap[w.heap.size]? = some (.cells #[.int .u8 0] 5 (0, 0)) := heap_alloc_new w _
  have hrow : (w.alloc (.cells #[.int .u8 0] 5)).ownsRow w.heap.size 5 1 (.slice none 0 0) 0 [] := World.ownsRow_nil _ _ _ _
  have hsz := hBl.size
  have HB := Lib.hid hBl
  have c0 : IntKind.i64.wrap 0 = 0 := by decide
  clear hBl h
  go_enter Try.func91, Try.ntmps91
  go_wp2_with fail
  refine kb.mono ?_
  rintro e w' ⟨rfl, rfl⟩
  go_wp2_with (at_builtin; refine wpList_append_own_at _ rfl _ _ 22 rfl w.heap.size 5 i5 _ 1 1 Try.underlying22 hi5 hy50 hy51 hy52 zsz_u8 (by decide) _ _ _ rfl hrow ⟨w.heap.size, 0, none⟩ 1 1 [.int .u8 0] rfl rfl (World.news_of_block hnb) (by simp [Value.oneCell']) (by unfold maxLen; omega) (by omega) hsz ?_; intro v' wa hown' hgrow hnil hat)
  replace hgrow : (w.alloc (.cells #[.int .u8 0] 5)).grownBy wa none := hgrow
  have hBa := HB.out.grown hgrow hsz (fun k hk => by cases hk)
  have hNa := HN.out.below hBa
  have hN0 := HN.out
  have hoa : OwnB w.heap.size wa v' [0] := hown'
  have kd := data_E b wa hNa
  have kn := number_E w.heap.size v' [0] 4 wa hoa hBa.size (by simp) (by omega)
  clear hown' hgrow hnil hat hrow hnb kb HB HN hoa
  refine kd.mono ?_
  rintro e w2 ⟨rfl, rfl⟩
  clear kd
  go_wp2_with fail
  refine kn.mono ?_
  rintro e w3 ⟨v3, rfl, ho3, hB3⟩
  have hN3 := hN0.below (hBa.trans hB3)
  have k2 := nodes_E b w3 hN3
  have hBb := hBa.trans hB3
  clear hN3 hB3 hBa hNa
  have kn2 := number_E w.heap.size v3 ([0] ++ numB 0 4) 4 w3 ho3 hBb.size (by simp [numB_len]) (by omega)
  clear kn ho3 hN0
  go_wp2_with fail
  refine k2.mono ?_
  rintro e w4 ⟨rfl, rfl⟩
  clear k2
  go_wp2_with fail
  refine kn2.mono ?_
  rintro e w5 ⟨v5, rfl, ho5, hB5⟩
  clear kn2
  go_wp2_with fail
  go_ret
  exact ⟨_, _, rfl, ho5, by simp [numB_len], hBb.trans hB5⟩
set_option maxHeartbeats 4000000 in
theorem withNode_E (b : Nat) (w : World) (h : NE w b) :
    Calls Try.prog 72 #[.slice none 0 0, .pointer (some ⟨b, 0, none⟩), .int .i64 14] w fun e w' => ∃ v L, e = .returned v ∧ OwnB w.heap.size w' v L ∧ L.length = 9 ∧ Below w.heap.size w w' := by
  have kh := withHead_E b w h
  have HN := Lib.hid h
  clear h
  go_enter Try.func72, Try.ntmps72
  go_wp2_with fail
  refine kh.mono ?_
  rintro e w1 ⟨v, L, rfl, ho, hL, hB⟩
  have hN1 := HN.out.below hB
  have kp := pairs_E b w1 hN1
  have kk := kids_E b w1 hN1
  have HO := Lib.hid ho
  clear kh ho hN1
  go_wp2_with fail
  refine kp.mono ?_
  rintro e w' ⟨rfl, rfl⟩
  clear kp
  go_wp2_with fail
  go_loopw [0, 24] (fun v0 i wr => v = v0 ∧ i = .int .i64 0 ∧ w1 = wr) (fun v0 i wr => 0)
  case atStart => exact ⟨rfl, rfl, rfl⟩
  case round =>
    obtain ⟨hv0, rfl, hwr⟩ := hrel
    subst hv0 hwr
    go_wp2_with fail
    refine kk.mono ?_
    rintro e w' ⟨rfl, rfl⟩
    clear kk
    go_wp2_with fail
    go_loopw [0, 39] (fun v0 i wr' => v = v0 ∧ i = .int .i64 0 ∧ w1 = wr') (fun v0 i wr' => 0)
    case atStart => exact ⟨rfl, rfl, rfl⟩
    case round =>
      obtain ⟨hv0, rfl, hwr⟩ := hrel
      subst hv0 hwr
      go_wp2_with fail
      go_ret
      exact ⟨_, _, rfl, HO.out, hL, hB⟩
theorem of_E (b : Nat) (w : World) (h : NE w b) :
    Calls Try.prog 43 #[.pointer (some ⟨b, 0, none⟩)] w fun e w' => ∃ v L, e = .returned v ∧ OwnB w.heap.size w' v L ∧ L.length = 9 ∧ Below w.heap.size w w' := by
  have kh := withNode_E b w h
  clear h
  go_enter Try.func43, Try.ntmps43
  go_wp2_with fail
  refine kh.mono ?_
  rintro e w1 ⟨v, L, rfl, ho, hL, hB⟩
  go_wp2_with fail
  go_ret
  exact ⟨_, _, rfl, ho, hL, hB⟩
theorem empty_E (w : World) : Calls Try.prog 46 #[] w fun e w' => e = .returned (.pointer (some ⟨w.heap.size, 0, none⟩)) ∧ NE w' w.heap.size ∧ Below w.heap.size w w' := by
  have kh := inner_E w
  go_enter Try.func46, Try.ntmps46
  go_wp2_with fail
  refine kh.mono ?_
  rintro e w1 ⟨rfl, h, hB⟩
  go_wp2_with fail
  go_ret
  exact ⟨rfl, h, hB⟩
/-- Canon of nil -/
theorem canon_nil (k0 k1 m : Int) (w : World) : Calls Try.prog 45 #[.agg #[.int .u64 k0, .int .u64 k1, .int .u64 m], .pointer none] w fun e w' => e = .returned (.bool false) ∧ Below w.heap.size w w' := by
  have hB := (Below.refl _ w).alloc (Nat.le_refl _) (.cells #[.int .u64 k0, .int .u64 k1, .int .u64 m] 98)
  go_enter Try.func45, Try.ntmps45
  go_wp2_with fail
  go_ret
  exact ⟨rfl, hB⟩
end Go.Proofs.Ytchimfgbdfmegaa
/- What the functions of package chunk, and the reference's At, return, as contracts of their translations: for every argument. -/
namespace Go.Proofs.Ytchimfgbdfmegaa
open Go.RowKit
set_option linter.unusedVariables false
set_option maxRecDepth 100000

theorem ret_int {k : IntKind} {a b : Int} (h : a = b) : Ending.returned (.int k a) = .returned (.int k b) := by rw [h]
/-- how many of the lowest n bits are set -/
def cnt : Nat → Nat → Nat
  | 0, _ => 0
  | n + 1, b => b % 2 + cnt n (b / 2)
theorem cnt_le (n b : Nat) : cnt n b ≤ n := by
  induction n generalizing b with
  | zero => simp [cnt]
  | succ n ih => have := ih (b / 2); simp only [cnt]; omega
theorem cnt_add (m n b : Nat) : cnt (m + n) b = cnt m b + cnt n (b / 2 ^ m) := by
  induction m generalizing b with
  | zero => simp [cnt]
  | succ m ih =>
    rw [show m + 1 + n = (m + n) + 1 by omega]
    simp only [cnt]
    rw [ih, Nat.div_div_eq_div_mul, Nat.pow_succ', Nat.add_assoc]
theorem cnt_mod (n b : Nat) : cnt n (b % 2 ^ n) = cnt n b := by
  induction n generalizing b with
  | zero => simp [cnt]
  | succ n ih =>
    simp only [cnt]
    rw [Nat.pow_succ', Nat.mod_mul_right_mod, Nat.mod_mul_right_div_self, ih]
theorem cnt_32 (b : Nat) (h : b < 4294967296) : cnt 32 b = cnt 8 (b / 16777216) + cnt 8 (b / 65536 % 256) + cnt 8 (b / 256 % 256) + cnt 8 (b % 256) := by
  have e1 := cnt_mod 8 (b / 65536)
  have e2 := cnt_mod 8 (b / 256)
  have e3 := cnt_mod 8 b
  simp only [Nat.reducePow] at e1 e2 e3
  rw [e1, e2, e3]
  rw [show 32 = 8 + (8 + (8 + 8)) from rfl]
  simp only [cnt_add, Nat.div_div_eq_div_mul, Nat.reducePow, Nat.reduceMul]
  omega
def popList : List UInt8 := (List.range 256).map fun i => (cnt 8 i).toUInt8

theorem pop_at (s : ByteArray) (hs : s.data.toList = popList) (i : Nat) (h : i < s.size) : (s[i]'h).toNat = cnt 8 i := by
  have h1 : i < s.data.toList.length := by simpa using h
  have e : s[i]'h = s.data.toList[i]'h1 := rfl
  rw [e]
  simp only [hs]
  have : cnt 8 i < 256 := by have := cnt_le 8 i; omega
  simp [popList, Nat.toUInt8]
  exact this
theorem pop_size (s : ByteArray) (hs : s.data.toList = popList) : s.size = 256 := by
  have : s.data.toList.length = s.size := by simp
  rw [← this, hs]; simp [popList]

theorem quiet_pop {P : Program} {C : World → Prop} {a : Act} {o : Oper} {K : Act → Prop} (t : TypeId) (s : ByteArray) (y : Operand) (k : IntKind) (i : Nat)
    (h : o.op = .index t (.const (.string s)) y) (hs : s.data.toList = popList) (he : a.eval y = .int k i) (hu : P.underlying t = some .string) (h1 : i < 256)
    (hk : K (a.put o.dst (.int .u8 (cnt 8 i)))) : o.quiet P a C K := by
  refine ⟨_, fun w _ => ?_, hk⟩
  unfold Oper.quietAt
  have hz := pop_size s hs
  have hp := pop_at s hs i (by omega)
  have hr := run_index_string (P := P) w t s k i hu
  rw [dif_pos (by omega)] at hr
  simp only [Int.toNat_natCast, hp] at hr
  simp [execOp, h, BigFrame.eval_const, he, hr, Oper.quietUpon]
theorem and255 (a : Nat) : a &&& 255 = a % 256 := Nat.and_two_pow_sub_one_eq_mod a 8
theorem bv32 (a : Nat) (ha : a < 4294967296) : (BitVec.ofInt 32 (a : Int)).toNat = a := by
  rw [BitVec.ofInt_natCast, BitVec.toNat_ofNat]; exact Nat.mod_eq_of_lt (by omega)
theorem and_u32 (a b : Nat) (ha : a < 4294967296) (hb : b < 4294967296) : bits .and .u32 (a : Int) (b : Int) = ((a &&& b : Nat) : Int) := by
  have hx : a &&& b < 2 ^ 32 := Nat.and_lt_two_pow _ (by omega)
  show IntKind.u32.wrap ((BitVec.ofInt 32 (a : Int) &&& BitVec.ofInt 32 (b : Int)).toNat : Int) = _
  rw [BitVec.toNat_and, bv32 a ha, bv32 b hb, IntKind.wrap_u32]
  omega
theorem or_u32 (a b : Nat) (ha : a < 4294967296) (hb : b < 4294967296) : bits .or .u32 (a : Int) (b : Int) = ((a ||| b : Nat) : Int) := by
  have hx : a ||| b < 2 ^ 32 := Nat.or_lt_two_pow (by omega) (by omega)
  show IntKind.u32.wrap ((BitVec.ofInt 32 (a : Int) ||| BitVec.ofInt 32 (b : Int)).toNat : Int) = _
  rw [BitVec.toNat_or, bv32 a ha, bv32 b hb, IntKind.wrap_u32]
  omega
theorem and255_u32 (x : Int) (h0 : 0 ≤ x) (ha : x < 4294967296) : bits .and .u32 x 255 = x % 256 := by
  obtain ⟨a, rfl⟩ := Int.eq_ofNat_of_zero_le h0
  have h := and_u32 a 255 (by omega) (by omega)
  rw [and255] at h
  exact h

set_option maxRecDepth 100000 in
set_option maxHeartbeats 400000 in
theorem ones_any (b : Nat) (w : World) (h1 : b < 4294967296) :
    Calls Try.prog 139 #[.int .u32 b] w fun e w' => e = .returned (.int .i64 (cnt 32 b)) ∧ ∃ n, w' = w.drewN n := by
  have E := Lib.hid (cnt_32 b h1)
  have c0 := cnt_le 8 (b / 16777216)
  have c1 := cnt_le 8 (b / 65536 % 256)
  have c2 := cnt_le 8 (b / 256 % 256)
  have c3 := cnt_le 8 (b % 256)
  have H1 := and255_u32 ((b : Int) / 65536) (by omega) (by omega)
  have H2 := and255_u32 ((b : Int) / 256) (by omega) (by omega)
  have H3 := and255_u32 (b : Int) (by omega) (by omega)
  have G1 := Lib.hid H1
  have G2 := Lib.hid H2
  have G3 := Lib.hid H3
  clear H1 H2 H3
  go_enter Try.func139, Try.ntmps139
  go_wp2_with fail
  refine wp_region_quiet_lit (by kernel_rfl) (by kernel_rfl) ?_
  go_big_quiet_step (fail)
  go_big_quiet_step (fail)
  go_big_quiet_want
  refine quiet_pop 9 _ _ .u32 (b / 16777216) rfl (by decide +kernel) rfl Try.underlying9 (by omega) ?_
  go_simp
  go_big_quiet_on
  go_big_quiet_step (fail)
  go_big_quiet_step (fail)
  go_big_quiet_step (fail)
  go_big_quiet_want
  refine quiet_pop 9 _ _ .u32 (b / 65536 % 256) rfl (by decide +kernel) (by simp [go_sem, G1.out]) Try.underlying9 (by omega) ?_
  go_simp
  go_big_quiet_on
  go_big_quiet_step (fail)
  go_big_quiet_step (fail)
  go_big_quiet_step (fail)
  go_big_quiet_step (fail)
  go_big_quiet_want
  refine quiet_pop 9 _ _ .u32 (b / 256 % 256) rfl (by decide +kernel) (by simp [go_sem, G2.out]) Try.underlying9 (by omega) ?_
  go_simp
  go_big_quiet_on
  go_big_quiet_step (fail)
  go_big_quiet_step (fail)
  go_big_quiet_step (fail)
  go_big_quiet_want
  refine quiet_pop 9 _ _ .u32 (b % 256) rfl (by decide +kernel) (by simp [go_sem, G3.out]) Try.underlying9 (by omega) ?_
  go_simp
  go_big_quiet_on
  repeat (go_big_quiet_step (fail))
  refine wpQuiet_nil ?_
  intro _ hw'
  obtain ⟨nq, hw''⟩ := hw'
  subst hw''
  go_wp2
  go_ret
  exact ⟨ret_int (by rw [E.out]; simp only [Int.natCast_add]), nq, rfl⟩
theorem pow32 (n : Nat) : (2 : Int) ^ (5 * n) = 32 ^ n := by
  rw [Int.pow_mul]; rfl

theorem atVal (h lv : Int) (h0 : 0 ≤ h) (hl : 0 ≤ lv) : wrap64 ((h / 2 ^ (5 * lv).toNat).tmod 32) = h / 32 ^ lv.toNat % 32 := by
  have e : (5 * lv).toNat = 5 * lv.toNat := by omega
  rw [e, pow32]
  have hp : (0 : Int) ≤ h / 32 ^ lv.toNat := Int.ediv_nonneg h0 (Int.le_of_lt (Int.pow_pos (by decide)))
  rw [Int.tmod_eq_emod_of_nonneg hp]
  generalize h / 32 ^ lv.toNat = x at hp
  unfold wrap64
  omega

set_option maxHeartbeats 400000 in
theorem at_no (h lv : Int) (w : World) (hl : lv < 0) :
    Calls Try.prog 123 #[.int .u64 h, .int .i64 lv] w fun e w' => e = .returned (.int .i64 0) ∧ w = w' := by
  go_enter Try.func123, Try.ntmps123
  go_wp2
  go_ret
  exact ⟨rfl, rfl⟩
set_option maxHeartbeats 400000 in
theorem at_no2 (h lv : Int) (w : World) (hl : 13 ≤ lv) :
    Calls Try.prog 123 #[.int .u64 h, .int .i64 lv] w fun e w' => e = .returned (.int .i64 0) ∧ w = w' := by
  go_enter Try.func123, Try.ntmps123
  go_wp2
  go_ret
  exact ⟨rfl, rfl⟩
set_option maxHeartbeats 400000 in
theorem at_yes (h lv : Int) (w : World) (h0 : 0 ≤ h) (h1 : h < 18446744073709551616) (hl : 0 ≤ lv) (hl' : lv < 13) :
    Calls Try.prog 123 #[.int .u64 h, .int .i64 lv] w fun e w' => e = .returned (.int .i64 (h / 32 ^ lv.toNat % 32)) ∧ w = w' := by
  go_enter Try.func123, Try.ntmps123
  go_wp2
  go_ret
  exact ⟨ret_int (atVal h lv h0 hl), rfl⟩

/-- what chunk.At tells -/
def atZ (h lv : Int) : Int := if lv < 0 ∨ 13 ≤ lv then 0 else (h / 32 ^ lv.toNat) % 32
theorem at_any (h lv : Int) (w : World) (h0 : 0 ≤ h) (h1 : h < 18446744073709551616) :
    Calls Try.prog 123 #[.int .u64 h, .int .i64 lv] w fun e w' => e = .returned (.int .i64 (atZ h lv)) ∧ w = w' := by
  by_cases c : lv < 0
  · rw [show atZ h lv = 0 by simp [atZ, c]]; exact at_no h lv w c
  · by_cases c2 : 13 ≤ lv
    · rw [show atZ h lv = 0 by simp [atZ, c2]]; exact at_no2 h lv w c2
    · rw [show atZ h lv = (h / 32 ^ lv.toNat) % 32 by simp [atZ, c, c2]]; exact at_yes h lv w h0 h1 (by omega) (by omega)

theorem div32 (h : Int) (k : Nat) : h / 32 ^ k / 32 = h / 32 ^ (k + 1) := by
  rw [Int.ediv_ediv_of_nonneg (Int.le_of_lt (Int.pow_pos (by decide))), Int.pow_succ]
theorem div32_nonneg (h : Int) (k : Nat) (h0 : 0 ≤ h) : 0 ≤ h / 32 ^ k := Int.ediv_nonneg h0 (Int.le_of_lt (Int.pow_pos (by decide)))
theorem div32_le (h : Int) (k : Nat) (h0 : 0 ≤ h) : h / 32 ^ k ≤ h := by
  exact Int.ediv_le_self _ h0

/-- the set of i alone -/
def onl (i : Int) : Nat := if 0 ≤ i ∧ i < 32 then 2 ^ i.toNat else 0
theorem onl_lt (i : Int) : onl i < 4294967296 := by
  unfold onl
  split
  · have : 2 ^ i.toNat < 2 ^ 32 := Nat.pow_lt_pow_right (by decide) (by omega)
    omega
  · decide

theorem pow_u32 (n : Nat) (h : n < 32) : (2 : Int) ^ n % 4294967296 = ((2 ^ n : Nat) : Int) := by
  have h2 : 2 ^ n < 2 ^ 32 := Nat.pow_lt_pow_right (by decide) h
  have e : ((2 ^ n : Nat) : Int) = (2 : Int) ^ n := by simp
  rw [← e]
  generalize 2 ^ n = x at h2 ⊢
  omega
set_option maxHeartbeats 400000 in
theorem only_no (i : Int) (w : World) (h : i < 0) :
    Calls Try.prog 136 #[.int .i64 i] w fun e w' => e = .returned (.int .u32 0) ∧ w = w' := by
  go_enter Try.func136, Try.ntmps136
  go_wp2
  go_ret
  exact ⟨rfl, rfl⟩
set_option maxHeartbeats 400000 in
theorem only_no2 (i : Int) (w : World) (h : 32 ≤ i) :
    Calls Try.prog 136 #[.int .i64 i] w fun e w' => e = .returned (.int .u32 0) ∧ w = w' := by
  go_enter Try.func136, Try.ntmps136
  go_wp2
  go_ret
  exact ⟨rfl, rfl⟩
set_option maxHeartbeats 400000 in
theorem only_yes (n : Nat) (w : World) (h : n < 32) :
    Calls Try.prog 136 #[.int .i64 n] w fun e w' => e = .returned (.int .u32 (2 ^ n : Nat)) ∧ w = w' := by
  have E := Lib.hid (pow_u32 n h)
  go_enter Try.func136, Try.ntmps136
  go_wp2
  go_ret
  exact ⟨ret_int E.out, rfl⟩
theorem only_any (i : Int) (w : World) :
    Calls Try.prog 136 #[.int .i64 i] w fun e w' => e = .returned (.int .u32 (onl i)) ∧ w = w' := by
  by_cases c : i < 0
  · rw [show onl i = 0 by simp [onl]; omega]; exact only_no i w c
  · by_cases c2 : 32 ≤ i
    · rw [show onl i = 0 by simp [onl]; omega]; exact only_no2 i w c2
    · obtain ⟨n, rfl⟩ := Int.eq_ofNat_of_zero_le (by omega : 0 ≤ i)
      rw [show onl (n : Int) = 2 ^ n by simp [onl]; omega]; exact only_yes n w (by omega)

set_option maxHeartbeats 400000 in
theorem count_any (b : Nat) (w : World) (h1 : b < 4294967296) :
    Calls Try.prog 137 #[.int .u32 b] w fun e w' => e = .returned (.int .i64 (cnt 32 b)) ∧ ∃ n, w' = w.drewN n := by
  go_enter Try.func137, Try.ntmps137
  go_wp2_with (go_at_call 139; refine (ones_any _ _ h1).mono ?_; rintro e w' ⟨rfl, nq, rfl⟩)
  go_ret
  exact ⟨rfl, nq, rfl⟩

set_option maxHeartbeats 400000 in
theorem has_any (b : Nat) (i : Int) (w : World) (h1 : b < 4294967296) :
    Calls Try.prog 126 #[.int .u32 b, .int .i64 i] w fun e w' => e = .returned (.bool (b &&& onl i != 0)) ∧ w = w' := by
  have hb := onl_lt i
  have E := Lib.hid (and_u32 b (onl i) h1 hb)
  go_enter Try.func126, Try.ntmps126
  go_wp2_with (go_at_call 136; refine (only_any _ _).mono ?_; rintro e w' ⟨rfl, rfl⟩)
  go_ret
  refine ⟨?_, rfl⟩
  show Ending.returned (Value.bool (bits BinOp.and IntKind.u32 ↑b ↑(onl i) != 0)) = _
  rw [E.out]
  exact congrArg (fun x => Ending.returned (Value.bool x)) (by rw [Bool.eq_iff_iff]; simp)
/-- the set without those of another -/
def wo (b c : Nat) : Nat := b &&& (4294967295 - c)
theorem andNot_u32 (a b : Nat) (ha : a < 4294967296) (hb : b < 4294967296) : bits .andNot .u32 (a : Int) (b : Int) = (wo a b : Int) := by
  have hx : a &&& (4294967295 - b) < 2 ^ 32 := Nat.and_lt_two_pow _ (by omega)
  show IntKind.u32.wrap ((BitVec.ofInt 32 (a : Int) &&& ~~~ BitVec.ofInt 32 (b : Int)).toNat : Int) = _
  rw [BitVec.toNat_and, BitVec.toNat_not, bv32 a ha, bv32 b hb, IntKind.wrap_u32]
  unfold wo
  simp only [Nat.reducePow, Nat.reduceSub]
  omega
theorem cnt_zero (n : Nat) : cnt n 0 = 0 := by
  induction n with
  | zero => rfl
  | succ n ih => simp [cnt, ih]
theorem cnt_low (n m b : Nat) (h : n ≤ m) : cnt m (b % 2 ^ n) = cnt n b := by
  obtain ⟨k, rfl⟩ := Nat.exists_eq_add_of_le h
  rw [cnt_add, cnt_mod, Nat.div_eq_of_lt (Nat.mod_lt _ (Nat.two_pow_pos n)), cnt_zero]; rfl
theorem cnt_high (n b : Nat) (h : b < 4294967296) (hn : 32 ≤ n) : cnt n b = cnt 32 b := by
  have := cnt_low 32 n b hn
  rw [Nat.mod_eq_of_lt h] at this
  exact this
/-- how many numbers of the set are less than i -/
def rnk (b : Nat) (i : Int) : Nat := cnt i.toNat b
theorem low_u32 (b n : Nat) (h1 : b < 4294967296) (hn : n < 32) : bits .and .u32 (b : Int) (((onl n : Nat) - 1 : Int) % 4294967296) = ((b % 2 ^ n : Nat) : Int) := by
  have e : onl (n : Int) = 2 ^ n := by simp [onl]; omega
  have h2 : 2 ^ n < 2 ^ 32 := Nat.pow_lt_pow_right (by decide) hn
  have h3 : 0 < 2 ^ n := Nat.two_pow_pos n
  have h4 := and_u32 b (2 ^ n - 1) h1 (by omega)
  rw [Nat.and_two_pow_sub_one_eq_mod] at h4
  rw [e, ← h4]
  exact congrArg (bits .and .u32 (b : Int)) (by omega)

set_option maxHeartbeats 400000 in
theorem rank_lo (b : Nat) (i : Int) (w : World) (h : i ≤ 0) :
    Calls Try.prog 127 #[.int .u32 b, .int .i64 i] w fun e w' => e = .returned (.int .i64 0) ∧ w = w' := by
  go_enter Try.func127, Try.ntmps127
  go_wp2
  go_ret
  exact ⟨rfl, rfl⟩
set_option maxHeartbeats 400000 in
theorem rank_hi (b : Nat) (i : Int) (w : World) (h1 : b < 4294967296) (h : 32 ≤ i) :
    Calls Try.prog 127 #[.int .u32 b, .int .i64 i] w fun e w' => e = .returned (.int .i64 (cnt 32 b)) ∧ ∃ k, w' = w.drewN k := by
  go_enter Try.func127, Try.ntmps127
  go_wp2_with (go_at_call 137; refine (count_any _ _ h1).mono ?_; rintro e w' ⟨rfl, nq, rfl⟩)
  go_ret
  exact ⟨rfl, nq, rfl⟩
set_option maxHeartbeats 400000 in
theorem rank_mid (b n : Nat) (w : World) (h1 : b < 4294967296) (h0 : 0 < n) (hn : n < 32):
    Calls Try.prog 127 #[.int .u32 b, .int .i64 n] w fun e w' => e = .returned (.int .i64 (cnt n b)) ∧ ∃ k, w' = w.drewN k := by
  have E := Lib.hid (low_u32 b n h1 hn)
  have hlt : b % 2 ^ n < 4294967296 := Nat.lt_of_le_of_lt (Nat.mod_le _ _) h1
  have H := Lib.hid hlt
  clear hlt
  go_enter Try.func127, Try.ntmps127
  go_wp2_with (go_at_call 136; refine (only_any _ _).mono ?_; rintro e w' ⟨rfl, rfl⟩)
  rw [E.out]
  refine (count_any _ _ H.out).mono ?_
  rintro e w' ⟨rfl, nq, rfl⟩
  go_wp2
  go_ret
  exact ⟨ret_int (congrArg (fun x : Nat => (x : Int)) (cnt_low n 32 b (by omega))), nq, rfl⟩
theorem rank_any (b : Nat) (i : Int) (w : World) (h1 : b < 4294967296) :
    Calls Try.prog 127 #[.int .u32 b, .int .i64 i] w fun e w' => e = .returned (.int .i64 (rnk b i)) ∧ ∃ k, w' = w.drewN k := by
  by_cases c : i ≤ 0
  · rw [show rnk b i = 0 by unfold rnk; rw [show i.toNat = 0 by omega]; rfl]
    exact (rank_lo b i w c).mono fun e w' ⟨he, hw⟩ => ⟨he, 0, by rw [← hw]; rfl⟩
  · by_cases c2 : 32 ≤ i
    · rw [show rnk b i = cnt 32 b from cnt_high _ _ h1 (by omega)]; exact rank_hi b i w h1 c2
    · obtain ⟨n, rfl⟩ := Int.eq_ofNat_of_zero_le (by omega : 0 ≤ i)
      exact rank_mid b n w h1 (by omega) (by omega)

end Go.Proofs.Ytchimfgbdfmegaa
/- The numbers of a set, and the contract of the iterator of package chunk: it hands over the numbers of the set in order. -/
namespace Go.Proofs.Ytchimfgbdfmegaa.Its
open Go.RowKit Go.Shelf
set_option linter.unusedVariables false
set_option maxRecDepth 100000
set_option linter.unusedSimpArgs false
attribute [local go_sem] Oper.semAt_some

/-- block g is just these cells, none of them frozen -/
def CBlk (w : World) (g : Nat) (t : TypeId) (cs : Array Value) : Prop := w.heap[g]? = some (.cells cs t (0, 0))
theorem CBlk.lt {w : World} {g : Nat} {t : TypeId} {cs : Array Value} (h : CBlk w g t cs) : g < w.heap.size := by
  rcases Nat.lt_or_ge g w.heap.size with hlt | hge
  · exact hlt
  · unfold CBlk at h; rw [Array.getElem?_eq_none hge] at h; cases h
theorem CBlk.cell {w : World} {g : Nat} {t : TypeId} {cs : Array Value} (h : CBlk w g t cs) (i : Nat) : w.cell? ⟨g, i, none⟩ = cs[i]? := cell_of_row w g i cs t (0, 0) h
theorem CBlk.frozen {w : World} {g : Nat} {t : TypeId} {cs : Array Value} (h : CBlk w g t cs) (i : Nat) : w.frozen? ⟨g, i, none⟩ = false := by
  unfold CBlk at h
  simp [World.frozen?, h]
theorem CBlk.new (w : World) (t : TypeId) (cs : Array Value) : CBlk (w.alloc (.cells cs t)) w.heap.size t cs := heap_alloc_new w _
theorem CBlk.alloc {w : World} {g : Nat} {t : TypeId} {cs : Array Value} (h : CBlk w g t cs) (o : Obj) : CBlk (w.alloc o) g t cs := (Below.heap_alloc w o g h.lt).trans h
theorem CBlk.below {w w' : World} {g : Nat} {t : TypeId} {cs : Array Value} {B : Nat} (h : CBlk w g t cs) (hb : Below B w w') (hg : g < B) : CBlk w' g t cs := (hb.block g hg).trans h

/-- the numbers of a set that are less than k, rising -/
def elsTo (b k : Nat) : List Nat := (List.range k).filter fun i => b.testBit i
theorem elsTo_succ (b k : Nat) : elsTo b (k + 1) = elsTo b k ++ if b.testBit k then [k] else [] := by
  unfold elsTo
  rw [List.range_succ, List.filter_append]
  cases h : b.testBit k <;> simp [h]
theorem elsTo_yes (b k : Nat) (h : b.testBit k = true) : elsTo b (k + 1) = elsTo b k ++ [k] := by rw [elsTo_succ, if_pos h]
theorem elsTo_no (b k : Nat) (h : b.testBit k = false) : elsTo b (k + 1) = elsTo b k := by rw [elsTo_succ, h]; simp
theorem elsTo_prefix (b k m : Nat) (h : k ≤ m) : elsTo b k <+: elsTo b m := by
  induction m with
  | zero => obtain rfl : k = 0 := by omega
            exact List.prefix_refl _
  | succ m ih =>
    by_cases e : k = m + 1
    · subst e; exact List.prefix_refl _
    · refine List.IsPrefix.trans (ih (by omega)) ?_
      rw [elsTo_succ]; exact List.prefix_append _ _
theorem elsTo_len (b k m : Nat) (h : k < m) (ht : b.testBit k = true) : (elsTo b k).length < (elsTo b m).length := by
  have h1 := (elsTo_prefix b (k + 1) m h).length_le
  rw [elsTo_yes b k ht] at h1
  simp at h1
  omega
theorem has_bit (b k : Nat) (hk : k < 32) : (b &&& onl k != 0) = b.testBit k := by
  have e : onl (k : Int) = 2 ^ k := by simp [onl]; omega
  rw [e, Nat.testBit_eq_decide_div_mod_eq]
  have h1 : b &&& 2 ^ k = if b.testBit k then 2 ^ k else 0 := by
    apply Nat.eq_of_testBit_eq
    intro i
    rw [Nat.testBit_and, Nat.testBit_two_pow]
    by_cases hi : k = i
    · subst hi
      cases h : b.testBit k <;> simp [h]
    · cases h : b.testBit k <;> simp [hi]
  rw [h1, Nat.testBit_eq_decide_div_mod_eq]
  have hp : 2 ^ k ≠ 0 := Nat.ne_of_gt (Nat.two_pow_pos k)
  by_cases hd : b / 2 ^ k % 2 = 1 <;> simp [hd, hp]
theorem has_yes (b k : Nat) (w : World) (h1 : b < 4294967296) (hk : k < 32) (ht : b.testBit k = true) :
    Calls Try.prog 126 #[.int .u32 b, .int .i64 k] w fun e w' => e = .returned (.bool true) ∧ w = w' := by
  have h := has_any b k w h1
  rw [has_bit b k hk, ht] at h
  exact h
theorem has_no (b k : Nat) (w : World) (h1 : b < 4294967296) (hk : k < 32) (ht : b.testBit k = false) :
    Calls Try.prog 126 #[.int .u32 b, .int .i64 k] w fun e w' => e = .returned (.bool false) ∧ w = w' := by
  have h := has_any b k w h1
  rw [has_bit b k hk, ht] at h
  exact h

/-- what a round must keep: the block of the set that the iterator reads -/
def KpB (B : Nat) (W W' : World) : Prop := W'.heap[B]? = W.heap[B]?
theorem KpB_t {B : Nat} {X Y Z : World} (h : KpB B X Y) (k : KpB B Y Z) : KpB B X Z := Eq.trans k h
theorem KpB_b {B : Nat} {w : World} (hB : B < w.heap.size) (W : World) (l : Nat) (o o' : Obj) (hl : w.heap.size ≤ l) (h : W.heap[l]? = some o) (_ : o.isCells = false) (_ : o.isWalk = false) : KpB B W (W.putObj l o') :=
  World.putObj_heap_other (by omega)

set_option maxRecDepth 100000 in
set_option maxHeartbeats 1000000 in
theorem all1_in (n l Bn b : Nat) (hb : b < 4294967296) (J Jx : List Nat → World → Prop)
    (hY : ∀ pre (x : Nat) W, J pre W → pre.length < (elsTo b 32).length → YieldAt Fence.wide (n - 1) Try.prog l #[.int .i64 x] W fun e W' =>
      (e = .returned (.bool true) ∧ J (pre ++ [x]) W' ∧ KpB Bn W W') ∨ (e = .returned (.bool false) ∧ Jx (pre ++ [x]) W'))
    (hn : 1 ≤ n) (W : World) (hBn : CBlk W Bn 136 #[.int .u32 b]) (h0 : J [] W) :
    CallsIn Fence.wide n Try.prog 125 #[.func (.yield l) #[] #[], .pointer (some ⟨Bn, 0, none⟩)] W fun e W' => (∃ v, e = .returned v) ∧
      ((∃ ys, ys = elsTo b 32 ∧ J ys W') ∨ (∃ pre, pre <+: elsTo b 32 ∧ Jx pre W')) := by
  refine callsIn_of_wp Try.func125 rfl trivial ?_ rfl
  simp only [Try.ntmps125, List.size_toArray, List.length_cons, List.length_nil, Nat.reduceAdd, Nat.reduceSub, Array.replicate_succ, Array.replicate_zero, List.push_toArray, List.append_toArray, List.nil_append, List.cons_append]
  gi_wp2
  gi_loopw [4] (fun i wr => ∃ k : Nat, k ≤ 32 ∧ i = .int .i64 k ∧ J (elsTo b k) wr ∧ CBlk wr Bn 136 #[.int .u32 b]) (fun i wr => 32 - (intOf i).toNat)
  case atStart => exact ⟨0, by omega, rfl, h0, hBn⟩
  case round =>
    obtain ⟨k, hk, rfl, hJ, hB⟩ := hrel
    have c0 := hB.cell 0
    by_cases hlt : k < 32
    · have d1 : decide ((k : Int) < 32) = true := by simp; omega
      cases ht : b.testBit k
      · have ht' := Lib.hid ht
        clear ht
        gi_wp2_with (refine ⟨trivial, ?_⟩; gi_at_call 126; refine (callsIn_wide.2 (has_no b k _ hb hlt ht'.out)).mono ?_; rintro e w' ⟨rfl, rfl⟩)
        refine ⟨fun _ h => (by cases h), ?_⟩
        gi_wp2
        go_roundw
        case rel => exact ⟨k + 1, by omega, by go_num, by rw [elsTo_no b k ht'.out]; exact hJ, hB⟩
        case measure => simp [intOf]; omega
      · have ht' := Lib.hid ht
        clear ht
        obtain ⟨fn, tmps, assign, body, hy, hR⟩ := hY (elsTo b k) k wr hJ (elsTo_len b k 32 hlt ht'.out)
        gi_wp2_with (refine ⟨trivial, ?_⟩; gi_at_call 126; refine (callsIn_wide.2 (has_yes b k _ hb hlt ht'.out)).mono ?_; rintro e w' ⟨rfl, rfl⟩)
        refine hR.mono ?_
        rintro e W3 (⟨rfl, hJ3, hk3⟩ | ⟨rfl, hJx3⟩)
        · gi_wp2
          go_roundw
          case rel => exact ⟨k + 1, by omega, by go_num, by rw [elsTo_yes b k ht'.out]; exact hJ3, Eq.trans hk3 hB⟩
          case measure => simp [intOf]; omega
        · gi_wp2
          refine bodyPost_ret (results_none rfl _ _ _) rfl ?_
          exact ⟨⟨_, rfl⟩, .inr ⟨elsTo b k ++ [k], by rw [← elsTo_yes b k ht'.out]; exact elsTo_prefix b (k + 1) 32 hlt, hJx3⟩⟩
    · obtain rfl : k = 32 := by omega
      gi_wp2
      go_end0
      exact ⟨⟨_, rfl⟩, .inl ⟨_, rfl, hJ⟩⟩

theorem all_stops (n Bn b : Nat) (hn : 1 ≤ n) (hb : b < 4294967296) (w : World) (hB : CBlk w Bn 136 #[.int .u32 b]) :
    SeqStopsK Fence.wide n Try.prog 125 #[.pointer (some ⟨Bn, 0, none⟩)] (fun x : Nat => #[Value.int .i64 x]) (KpB Bn) (fun ys => ys = elsTo b 32) (fun pre => pre <+: elsTo b 32) (elsTo b 32).length w :=
  fun l J Jx W hW _ _ hY h0 => all1_in n l Bn b hb J Jx hY hn W (hB.below hW hB.lt) h0

set_option maxHeartbeats 1000000 in
theorem all_any (b : Nat) (w : World) :
    Calls Try.prog 113 #[.int .u32 b] w fun e w' => e = .returned (.func (.func 125) #[] #[.pointer (some ⟨w.heap.size, 0, none⟩)]) ∧ w.alloc (.cells #[.int .u32 b] 136) = w' := by
  go_enter Try.func113, Try.ntmps113
  go_wp2
  go_ret
  exact ⟨rfl, rfl⟩
end Go.Proofs.Ytchimfgbdfmegaa.Its
