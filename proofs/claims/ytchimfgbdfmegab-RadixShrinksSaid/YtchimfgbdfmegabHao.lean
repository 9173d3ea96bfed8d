/- Bytes that are appended: numbers, texts; the program's and the reference's. -/
import Derived.Test.YtchimfgbdfmegabHab
import Derived.Lib.AppendStr
import Derived.Lib.ConvBytes
import Derived.ArgAppend
import Derived.Deep.AppendLies
import Derived.Laws.NewBlocks
import Derived.BigQuiet
import Derived.Lib.SliceRun
import Derived.Test.YtchimfgbdfmegabProg
import Derived.WalkKit
import Derived.Lib.Hide
import Derived.Deep.QuietTactic
import Derived.RangeFuncNested
import Derived.RangeFuncBound
import Derived.RangeFuncCalls
import Derived.RangeFuncLeaves
import Derived.RangeFuncBox
import Derived.Shelf.Abstract
import Derived.Shelf.RegionOpen
import Derived.OwnWalkIn
import Derived.TacticsInMore
import Derived.LoopNIn
import Derived.LoopIn
import Derived.Maps.AppendAt
import Derived.Laws.OwnMore
import Derived.Laws.Rows
namespace Go.Proofs.Ytchimfgbdfmegab
open Go.RowKit Go.Lib
set_option linter.unusedVariables false
set_option maxRecDepth 100000
set_option linter.unusedSimpArgs false
set_option maxRecDepth 100000
/-- the cells of an owned row: those of its block -/
theorem own_blkZ {w : World} {base : Nat} {e : TypeId} {size n : Nat} {v : Value} {xs : List Value} (h : w.ownsRow base e size v n xs) (hn : 0 < n) :
    ∃ g cap cur, v = .slice (some ⟨g, 0, none⟩) n cap ∧ base ≤ g ∧ Blk w g e cur ∧ n ≤ cap ∧ cap ≤ maxLen ∧ cur.size = cap * size ∧ cur.toList.take (n * size) = xs := by
  rcases h.2 with ⟨_, h0⟩ | ⟨g, cap, cur, h1, h2, h3, h4⟩
  · omega
  · exact ⟨g, cap, cur, h1, h2, h3, h4⟩
theorem own_formN {w : World} {base ty sz n : Nat} {v : Value} {xs : List Value} (h : w.ownsRow base ty sz v n xs) : ∃ A c, v = .slice A n c := by
  rcases h.2 with ⟨e, e0⟩ | ⟨g, cap, cur, e, _⟩
  · exact ⟨none, 0, by rw [e, e0]⟩
  · exact ⟨_, _, e⟩
set_option linter.unusedVariables false
set_option maxRecDepth 100000
set_option linter.unusedSimpArgs false
set_option maxRecDepth 100000
def twoB (n : Nat) : List Nat := [n % 256, n / 256 % 256]
def fourB (n : Nat) : List Nat := [n % 256, n / 256 % 256, n / 65536 % 256, n / 16777216 % 256]
def strB (s : ByteArray) : List Nat := s.data.toList.map UInt8.toNat
def textB (s : ByteArray) : List Nat := twoB s.size ++ strB s
theorem strB_len (s : ByteArray) : (strB s).length = s.size := by
  unfold strB
  rw [List.length_map]
  rfl
def ubs (L : List Nat) : List Value := L.map fun n : Nat => Value.int .u8 n
/-- a row of bytes of one's own -/
def OwnB (base : Nat) (w : World) (v : Value) (L : List Nat) : Prop := w.ownsRow base 5 1 v L.length (ubs L)
theorem ubs_len (L : List Nat) : (ubs L).length = L.length := by simp [ubs]
theorem ubs_app (L M : List Nat) : ubs (L ++ M) = ubs L ++ ubs M := by simp [ubs]
theorem OwnB.nil (base : Nat) (w : World) : OwnB base w (.slice none 0 0) [] := ⟨rfl, .inl ⟨rfl, rfl⟩⟩
theorem below_drewK (w : World) (k : Nat) : Below w.heap.size w (w.drewN k) := ⟨rfl, rfl, rfl, Nat.le_refl _, fun _ _ => rfl⟩
theorem OwnB.below {base : Nat} {w w' : World} {v : Value} {L : List Nat} (h : OwnB base w v L) (hb : Below w.heap.size w w') : OwnB base w' v L := own_keep h (Keep.of_below (X := []) hb) (by simp)
theorem info5 : (Try.prog.info? 5).map (fun i => (i.zero, i.size, i.bytes)) = some (some (.int .u8 0), 1, 1) := by kernel_rfl
theorem zsz_u8 : (Value.cells (.int .u8 0)).size = 1 := by simp [Value.cells]
def numB (x s : Nat) : List Nat := (List.range s).map fun i => x / 2 ^ (8 * i) % 256
theorem numB_succ (x s : Nat) : numB x (s + 1) = numB x s ++ [x / 2 ^ (8 * s) % 256] := by simp [numB, List.range_succ]
theorem numB_len (x s : Nat) : (numB x s).length = s := by simp [numB]
theorem numB_two (x : Nat) : numB x 2 = twoB x := by simp [numB, twoB, List.range_succ]
theorem numB_four (x : Nat) : numB x 4 = fourB x := by simp [numB, fourB, List.range_succ]
theorem textB_len (s : ByteArray) : (textB s).length = s.size + 2 := by simp [textB, strB_len, twoB]
theorem str_cells (s : ByteArray) : strCells s = ubs (strB s) := by simp [strCells, ubs, strB]
/-- a row whose room is all taken: an append to it makes a row of its own -/
def FullB (w : World) (v : Value) (L : List Nat) : Prop := (v = .slice none 0 0 ∧ L = []) ∨ ∃ g, v = .slice (some ⟨g, 0, none⟩) L.length L.length ∧ ∀ b, (some ⟨g, 0, none⟩ : Option Addr) = some b → ∀ j u, (ubs L)[j]? = some u → w.cell? (b.add j) = some u
theorem FullB.nil (w : World) : FullB w (.slice none 0 0) [] := .inl ⟨rfl, rfl⟩
theorem OwnB.low {base base' : Nat} {w : World} {v : Value} {L : List Nat} (h : OwnB base w v L) (hb : base' ≤ base) : OwnB base' w v L := by
  refine ⟨h.1, ?_⟩
  rcases h.2 with h1 | ⟨g, cap, cur, h1, h2, h3⟩
  · exact .inl h1
  · exact .inr ⟨g, cap, cur, h1, Nat.le_trans hb h2, h3⟩
/-- what a call that makes bytes of its own leaves -/
def MadeB (L : List Nat) (w : World) (e : Ending) (w' : World) : Prop := ∃ v, e = .returned v ∧ OwnB w.heap.size w' v L ∧ Below w.heap.size w w'
set_option maxHeartbeats 4000000 in
theorem withNumber_full (v : Value) (L : List Nat) (x s : Nat) (w : World) (hf : FullB w v L) (hL : L.length ≤ 1000000000000) (hs : s ≤ 4) (hs1 : 1 ≤ s) (hx : x < 4294967296) :
    Calls Try.prog 72 #[v, .int .i64 x, .int .i64 s] w (MadeB (L ++ numB x s) w) := by
  obtain ⟨i5, hi5, hy50, hy51, hy52⟩ := info_parts info5
  go_enter Try.func72, Try.ntmps72
  go_wp2_with fail
  go_loopw [0, 9] (fun v0 vi wr => ∃ j : Nat, j ≤ s ∧ vi = .int .i64 j ∧ ((j = 0 ∧ v0 = v ∧ wr = w) ∨ (1 ≤ j ∧ OwnB w.heap.size wr v0 (L ++ numB x j) ∧ Below w.heap.size w wr))) (fun v0 vi wr => s - (intOf vi).toNat)
  case atStart => exact ⟨0, by omega, rfl, .inl ⟨rfl, rfl, rfl⟩⟩
  case round =>
    obtain ⟨j, hj, rfl, hc⟩ := hrel
    rcases hc with ⟨rfl, rfl, rfl⟩ | ⟨hj1, ho, hB⟩
    · have L1 : (0 : Int) < (s : Int) := by omega
      have LV : ((x : Int) % 256) = ((x % 256 : Nat) : Int) := by push_cast; rfl
      have hBl := (Below.refl _ wr).alloc (Nat.le_refl _) (.cells #[.int .u8 ((x : Int) % 256)] 5)
      have hnb : (wr.alloc (.cells #[.int .u8 ((x : Int) % 256)] 5)).heap[wr.heap.size]? = some (.cells #[.int .u8 ((x : Int) % 256)] 5 (0, 0)) := heap_alloc_new wr _
      have fin : ∀ (v' : Value) (wa : World), wa.ownsRow (wr.alloc (.cells #[.int .u8 ((x : Int) % 256)] 5)).heap.size 5 1 v' (L.length + 1) (ubs L ++ [.int .u8 ((x : Int) % 256)]) → (wr.alloc (.cells #[.int .u8 ((x : Int) % 256)] 5)).grownBy wa none → OwnB wr.heap.size wa v' (L ++ numB x 1) ∧ Below wr.heap.size wr wa := fun v' wa h hg => by
        refine ⟨?_, hBl.grown hg hBl.size (fun k hk => by cases hk)⟩
        have e1 : ubs (L ++ numB x 1) = ubs L ++ [.int .u8 ((x : Int) % 256)] := by rw [ubs_app, LV]; simp [numB, ubs]
        refine OwnB.low (base := (wr.alloc (.cells #[.int .u8 ((x : Int) % 256)] 5)).heap.size) ?_ hBl.size
        unfold OwnB
        rw [e1, List.length_append, numB_len]
        exact h
      have Hfin := Lib.hid fin
      rcases hf with ⟨hv, rfl⟩ | ⟨g, hv, hA⟩
      · have HV := Lib.hid hv
        clear fin hBl LV hv
        go_wp2_with (at_builtin; refine wpList_append_grows _ rfl _ _ 41 rfl 5 i5 _ 1 1 Try.underlying41 hi5 hy50 hy51 hy52 zsz_u8 (by decide) none 0 0 [] HV.out (fun _ => ⟨rfl, rfl⟩) rfl (fun b e => by cases e) ⟨wr.heap.size, 0, none⟩ 1 1 [.int .u8 ((x : Int) % 256)] rfl rfl (World.news_of_block hnb) (by simp [Value.oneCell']) (by omega) (by unfold maxLen; omega) (by omega) ?_; intro v' wa hown hg)
        have h := Hfin.out v' wa hown hg
        exact ⟨⟨1, by omega, by go_num, .inr ⟨by omega, h.1, h.2⟩⟩, by simp [intOf]; omega⟩
      · have hA' : ∀ b, (some ⟨g, 0, none⟩ : Option Addr) = some b → ∀ j u, (ubs L)[j]? = some u → (wr.alloc (.cells #[.int .u8 ((x : Int) % 256)] 5)).cell? (b.add j) = some u := fun b e j u hu => (hBl.cell (World.block_lt_of_cell? wr _ (hA b e j u hu))).trans (hA b e j u hu)
        have HV := Lib.hid hv
        clear fin hBl LV hA hv
        go_wp2_with (at_builtin; refine wpList_append_grows _ rfl _ _ 41 rfl 5 i5 _ 1 1 Try.underlying41 hi5 hy50 hy51 hy52 zsz_u8 (by decide) (some ⟨g, 0, none⟩) L.length L.length (ubs L) HV.out (fun e => by cases e) (by rw [ubs_len]; omega) hA' ⟨wr.heap.size, 0, none⟩ 1 1 [.int .u8 ((x : Int) % 256)] rfl rfl (World.news_of_block hnb) (by simp [Value.oneCell']) (by omega) (by unfold maxLen; omega) (by omega) ?_; intro v' wa hown hg)
        have h := Hfin.out v' wa hown hg
        exact ⟨⟨1, by omega, by go_num, .inr ⟨by omega, h.1, h.2⟩⟩, by simp [intOf]; omega⟩
    · by_cases hlt : j < s
      · have L1 : (j : Int) < (s : Int) := by omega
        have L2 : IntKind.i64.wrap ((j : Int) + 1) = ((j + 1 : Nat) : Int) := by rw [IntWalk.i64_in _ (by omega)]; omega
        have L3 : IntKind.i64.wrap (8 * (j : Int)) = ((8 * j : Nat) : Int) := by rw [IntWalk.i64_in _ (by omega)]; omega
        have LV : ((x : Int) / 2 ^ (8 * j) % 256) = ((x / 2 ^ (8 * j) % 256 : Nat) : Int) := by push_cast; rfl
        have hlen : (L ++ numB x j).length = L.length + j := by rw [List.length_append, numB_len]
        have hBl := (Below.refl _ wr).alloc (Nat.le_refl _) (.cells #[.int .u8 ((x : Int) / 2 ^ (8 * j) % 256)] 5)
        have hrow : (wr.alloc (.cells #[.int .u8 ((x : Int) / 2 ^ (8 * j) % 256)] 5)).ownsRow w.heap.size 5 1 u0 (L.length + j) (ubs (L ++ numB x j)) := by rw [← hlen]; exact own_keep ho (Keep.of_below (X := []) hBl) (by simp)
        have hnb : (wr.alloc (.cells #[.int .u8 ((x : Int) / 2 ^ (8 * j) % 256)] 5)).heap[wr.heap.size]? = some (.cells #[.int .u8 ((x : Int) / 2 ^ (8 * j) % 256)] 5 (0, 0)) := heap_alloc_new wr _
        have hsz := Nat.le_trans hB.size hBl.size
        have HB := Lib.hid (hB.trans (hBl.mono hB.size))
        have LVh := Lib.hid LV
        have Hlen := Lib.hid hlen
        clear hB ho hBl LV hlen hf
        go_wp2_with (at_builtin; refine wpList_append_own_at _ rfl _ _ 41 rfl w.heap.size 5 i5 _ 1 1 Try.underlying41 hi5 hy50 hy51 hy52 zsz_u8 (by decide) _ _ _ rfl hrow ⟨wr.heap.size, 0, none⟩ 1 1 [.int .u8 ((x : Int) / 2 ^ (8 * j) % 256)] rfl rfl (World.news_of_block hnb) (by simp [Value.oneCell']) (by unfold maxLen; omega) (by omega) hsz ?_; intro v' wa hown' hgrow hnil hat)
        replace hgrow : (wr.alloc (.cells #[.int .u8 ((x : Int) / 2 ^ (8 * j) % 256)] 5)).grownBy wa u0.ownBlock := hgrow
        refine ⟨⟨j + 1, by omega, by go_num, .inr ⟨by omega, ?_, HB.out.grown hgrow (HB.out.size) (own_ge hrow)⟩⟩, by simp [intOf]; omega⟩
        have e1 : L ++ numB x (j + 1) = (L ++ numB x j) ++ [x / 2 ^ (8 * j) % 256] := by rw [numB_succ, List.append_assoc]
        unfold OwnB
        rw [e1, ubs_app, List.length_append, Hlen.out]
        have e2 : ubs [x / 2 ^ (8 * j) % 256] = [.int .u8 ((x : Int) / 2 ^ (8 * j) % 256)] := by rw [LVh.out]; rfl
        rw [e2]
        exact hown'
      · obtain rfl : j = s := by omega
        have G : ¬ ((j : Int) < (j : Int)) := by omega
        clear hf
        go_wp2_with fail
        go_ret
        exact ⟨_, rfl, ho, hB⟩
set_option maxHeartbeats 4000000 in
theorem withText_full (v : Value) (L : List Nat) (s : ByteArray) (w : World) (hf : FullB w v L) (hL : L.length ≤ 100000000000) (hs : s.size ≤ 1000000) :
    Calls Try.prog 68 #[v, .string s] w (MadeB (L ++ textB s) w) := by
  obtain ⟨i5, hi5, hy50, hy51, hy52⟩ := info_parts info5
  have kn := withNumber_full v L s.size 2 w hf (by omega) (by omega) (by omega) (by omega)
  have L1 : IntKind.i64.wrap (s.size : Int) = (s.size : Int) := by rw [IntWalk.i64_in _ (by omega)]
  clear hf
  go_enter Try.func68, Try.ntmps68
  go_wp2_with fail
  refine kn.mono ?_
  rintro e w1 ⟨v1, rfl, ho, hB⟩
  have hlen : (L ++ numB s.size 2).length = L.length + 2 := by rw [List.length_append, numB_len]
  have hrow : w1.ownsRow w.heap.size 5 1 v1 (L.length + 2) (ubs (L ++ numB s.size 2)) := by rw [← hlen]; exact ho
  have hsz := hB.size
  have HB := Lib.hid hB
  have Hlen := Lib.hid hlen
  clear kn ho hB hlen
  go_wp2_with (at_builtin; refine wpList_append_own_string _ rfl _ _ 41 9 rfl w.heap.size 5 i5 Try.underlying41 Try.underlying9 hi5 hy50 hy51 hy52 _ _ _ rfl hrow s rfl (by unfold maxLen; omega) (by omega) hsz ?_; intro v' wa hown' hgrow hnil)
  replace hgrow : w1.grownBy wa v1.ownBlock := hgrow
  go_ret
  refine ⟨_, rfl, ?_, HB.out.grown hgrow hsz (own_ge hrow)⟩
  have e1 : L ++ textB s = (L ++ numB s.size 2) ++ strB s := by unfold textB; rw [numB_two, List.append_assoc]
  unfold OwnB
  rw [e1, ubs_app, List.length_append, Hlen.out, strB_len, ← str_cells]
  exact hown'
theorem build2 (ev : Operand → Value) (o : Oper) (s t : Operand) (a b : Int) (w : World) (ho : o.op = .buildSlice 41 2 #[(0, s), (1, t)]) (hs : ev s = .int .u8 a) (ht : ev t = .int .u8 b) :
    (execOp ev o).run Try.prog w = .ok (.value (.slice (some ⟨w.heap.size, 0, none⟩) 2 2)) (w.alloc (.cells #[.int .u8 a, .int .u8 b] 5)) := by
  unfold execOp
  simp only [ho, List.map_toArray, List.map_cons, List.map_nil, hs, ht]
  kernel_rfl
/-- a row that was just made, whole -/
theorem OwnB.new {base : Nat} {w : World} {L : List Nat} {cs : Array Value} {n : Nat} (hb : base ≤ w.heap.size) (hn : L.length = n) (hm : n ≤ maxLen) (he : cs.toList = ubs L) : OwnB base (w.alloc (.cells cs 5)) (.slice (some ⟨w.heap.size, 0, none⟩) n n) L := by
  subst hn
  refine ⟨by rw [ubs_len]; simp, .inr ⟨w.heap.size, L.length, cs, rfl, hb, heap_alloc_new w _, Nat.le_refl _, hm, ?_, ?_⟩⟩
  · have := congrArg List.length he
    rw [ubs_len] at this
    simpa using this
  · rw [he, Nat.mul_one, ← ubs_len, List.take_length]
theorem refTwo_any (n : Nat) (w : World) (hn : n < 9223372036854775808) : Calls Try.prog 49 #[.int .i64 n] w (MadeB (twoB n) w) := by
  have e1 : ((n : Int) % 256) = ((n % 256 : Nat) : Int) := by omega
  have e2 : ((n : Int) / 256 % 256) = ((n / 256 % 256 : Nat) : Int) := by omega
  have HE := Lib.hid (⟨e1, e2⟩ : ((n : Int) % 256) = ((n % 256 : Nat) : Int) ∧ ((n : Int) / 256 % 256) = ((n / 256 % 256 : Nat) : Int))
  clear e1 e2
  go_enter Try.func49, Try.ntmps49
  go_wp2_with (with_reducible refine wpList_runAt rfl _ rfl _ _ (build2 _ _ _ _ _ _ _ rfl rfl rfl) ?_)
  go_ret
  refine ⟨_, rfl, OwnB.new (Nat.le_refl _) rfl (by unfold maxLen; omega) ?_, (Below.refl _ w).alloc (Nat.le_refl _) _⟩
  rw [HE.out.1, HE.out.2]
  rfl
theorem below_conv (w : World) (s : ByteArray) : Below w.heap.size w (bytesWorld w 5 s) := ⟨rfl, rfl, rfl, by rw [bytesWorld_size]; omega, fun i hi => bytesWorld_at_old w 5 s i hi⟩
theorem strB_get (s : ByteArray) (j : Nat) (h : j < s.size) : (strB s)[j]? = some (s.data.toList.getD j 0).toNat := by
  unfold strB
  have hl : j < s.data.toList.length := h
  rw [List.getElem?_map, List.getElem?_eq_getElem hl, Option.map_some, List.getD_eq_getElem?_getD, List.getElem?_eq_getElem hl, Option.getD_some]
set_option maxHeartbeats 4000000 in
theorem refText_any (s : ByteArray) (w : World) (hs : s.size ≤ 1000000) : Calls Try.prog 48 #[.string s] w (MadeB (textB s) w) := by
  obtain ⟨i5, hi5, hy50, hy51, hy52⟩ := info_parts info5
  have kt := refTwo_any s.size w (by omega)
  have L1 : IntKind.i64.wrap (s.size : Int) = (s.size : Int) := by rw [IntWalk.i64_in _ (by omega)]
  go_enter Try.func48, Try.ntmps48
  go_wp2_with fail
  refine kt.mono ?_
  rintro e w1 ⟨v1, rfl, ho, hB⟩
  have hcv : (convert 9 41 (.string s)).run Try.prog w1 = .ok (.slice (some ⟨w1.heap.size, 0, none⟩) s.size (grownCap w1 s.size 0 5)) (bytesWorld w1 5 s) := Go.Lib.run_convert_string_bytes w1 9 41 5 s Try.underlying9 Try.underlying41 Try.underlying5
  have hBc := below_conv w1 s
  have hrow : (bytesWorld w1 5 s).ownsRow w.heap.size 5 1 v1 2 (ubs (twoB s.size)) := own_keep ho (Keep.of_below (X := []) hBc) (by simp)
  have hnews : ∀ j u, (ubs (strB s))[j]? = some u → (bytesWorld w1 5 s).cell? ((⟨w1.heap.size, 0, none⟩ : Addr).add j) = some u := fun j u hu => by
    have hadd : (⟨w1.heap.size, 0, none⟩ : Addr).add j = ⟨w1.heap.size, j, none⟩ := by unfold Addr.add; split <;> simp_all
    have hj : j < s.size := by
      have := (List.getElem?_eq_some_iff.1 hu).1
      rwa [ubs_len, strB_len] at this
    rw [hadd, bytesWorld_cell w1 5 s j hj]
    unfold ubs at hu
    rw [List.getElem?_map, strB_get s j hj] at hu
    simpa using hu
  have hsz := Nat.le_trans hB.size hBc.size
  have HB := Lib.hid (hB.trans (hBc.mono hB.size))
  have hone : ∀ u ∈ ubs (strB s), u.oneCell' = true := fun u hu => by
    unfold ubs at hu
    obtain ⟨n, _, rfl⟩ := List.mem_map.1 hu
    rfl
  have hlen : (ubs (strB s)).length = s.size * 1 := by rw [ubs_len, strB_len]; omega
  clear kt ho hB hBc
  go_wp2_with (at_builtin; refine wpList_append_own_at _ rfl _ _ 41 rfl w.heap.size 5 i5 _ 1 1 Try.underlying41 hi5 hy50 hy51 hy52 zsz_u8 (by decide) _ _ _ rfl hrow ⟨w1.heap.size, 0, none⟩ s.size _ (ubs (strB s)) rfl hlen hnews hone (by unfold maxLen; omega) (by omega) hsz ?_; intro v' wa hown' hgrow hnil hat)
  replace hgrow : (bytesWorld w1 5 s).grownBy wa v1.ownBlock := hgrow
  go_ret
  refine ⟨_, rfl, ?_, HB.out.grown hgrow hsz (own_ge hrow)⟩
  unfold OwnB textB
  rw [List.length_append, strB_len, ubs_app]
  exact hown'
theorem take_step {L M : List Nat} {k : Nat} (hl : L.length = M.length) (hk : k < L.length) (h : L.take k = M.take k) (he : L[k]? = M[k]?) : L.take (k + 1) = M.take (k + 1) := by
  rw [List.take_add_one, List.take_add_one, h, he]
theorem OwnB.drewN {base : Nat} {w : World} {v : Value} {L : List Nat} (h : OwnB base w v L) (n : Nat) : OwnB base (w.drewN n) v L := h.below (below_drewK w n)
theorem OwnB.at {base : Nat} {w : World} {A : Option Addr} {n c : Nat} {L : List Nat} (h : OwnB base w (.slice A n c) L) (k : Nat) (hk : k < L.length) : ∃ g, A = some ⟨g, 0, none⟩ ∧ w.cell? ⟨g, k, none⟩ = some (.int .u8 (L[k] : Nat)) := by
  obtain ⟨g, cap, cur, e, -⟩ := own_blkZ h (by omega)
  simp only [Value.slice.injEq] at e
  obtain ⟨rfl, rfl, rfl⟩ := e
  refine ⟨g, rfl, ?_⟩
  have h' : w.ownsRow base 5 1 (.slice (some ⟨g, 0, none⟩) L.length c) L.length (ubs L) := h
  rw [h'.cellAt k (by omega)]
  simp [ubs, hk]
set_option maxHeartbeats 4000000 in
theorem refSameB_any (base base' : Nat) (v v' : Value) (L M : List Nat) (w : World) (hA : OwnB base w v L) (hB : OwnB base' w v' M) (hL : L.length ≤ 1000000000) :
    Calls Try.prog 28 #[v, v'] w fun e w' => e = .returned (.bool (decide (L = M))) ∧ ∃ n, w' = w.drewN n := by
  obtain ⟨A, ca, rfl⟩ := own_formN hA
  obtain ⟨B, cb, rfl⟩ := own_formN hB
  obtain ⟨n, hxs⟩ : ∃ n, n = L.length := ⟨_, rfl⟩
  obtain ⟨m, hys⟩ : ∃ m, m = M.length := ⟨_, rfl⟩
  rw [← hxs, ← hys]
  rw [← hxs] at hL hA
  rw [← hys] at hB
  have HX := Lib.hid hxs
  have HY := Lib.hid hys
  have HA := Lib.hid hA
  have HB := Lib.hid hB
  clear hxs hys hA hB
  by_cases hnm : n = m
  · subst hnm
    go_enter Try.func28, Try.ntmps28
    go_wp2_with fail
    go_loopw [13] (fun i wr => ∃ k : Nat, k ≤ n ∧ i = .int .i64 k ∧ Hid (L.take k = M.take k) ∧ ∃ q, wr = w.drewN q) (fun i wr => n - (intOf i).toNat)
    case atStart => exact ⟨0, by omega, rfl, Lib.hid rfl, 0, rfl⟩
    case round =>
      obtain ⟨k, hk, rfl, hE, q, rfl⟩ := hrel
      by_cases hlt : k < n
      · have hkL : k < L.length := by rw [← HX.out]; exact hlt
        have hkM : k < M.length := by rw [← HY.out]; exact hlt
        obtain ⟨ga, rfl, a0⟩ := (HA.out.drewN q).at k hkL
        obtain ⟨gb, rfl, b0⟩ := (HB.out.drewN q).at k hkM
        have hd : ∀ k, (w.drewN q).drewN k = w.drewN (q + k) := fun k => by simp [World.drewN, Nat.add_assoc]
        have L1' : (k : Int) < (n : Int) := by omega
        have L2' : IntKind.i64.wrap ((k : Int) + 1) = ((k + 1 : Nat) : Int) := by rw [IntWalk.i64_in _ (by omega)]; omega
        generalize hW : w.drewN q = W at *
        have HW := Lib.hid hW
        have HD := Lib.hid hd
        clear hd hW
        by_cases he : L[k] = M[k]
        · have S := Lib.hid (take_step (by rw [← HX.out, ← HY.out]) hkL hE.out (by rw [List.getElem?_eq_getElem hkL, List.getElem?_eq_getElem hkM, he]))
          rw [he] at a0
          clear he
          generalize M[k] = x at *
          go_wp2_with fail
          go_quiet (fail)
          go_wp2_with fail
          exact ⟨⟨k + 1, by omega, by go_num, S, q + nq, HD.out nq⟩, by simp [intOf]; omega⟩
        · have S : Hid (L = M → False) := Lib.hid (by rintro rfl; exact he rfl)
          have F : ¬ ((L[k] : Nat) : Int) = ((M[k] : Nat) : Int) := by omega
          clear he
          generalize M[k] = x at *
          generalize L[k] = y at *
          go_wp2_with fail
          go_quiet (fail)
          go_wp2_with fail
          go_ret
          refine ⟨?_, q + nq, HD.out nq⟩
          rw [decide_eq_false S.out]; rfl
      · obtain rfl : k = n := by omega
        go_wp2_with fail
        go_ret
        have h := hE.out
        have : L = M := by
          rw [List.take_of_length_le (by rw [← HX.out]; omega), List.take_of_length_le (by rw [← HY.out]; omega)] at h
          exact h
        refine ⟨?_, q, rfl⟩
        rw [decide_eq_true this]; rfl
  · have : ¬ L = M := by
      rintro rfl; exact hnm (HX.out.trans HY.out.symm)
    rw [decide_eq_false this]
    have F1 : ¬ ((n : Int) = (m : Int)) := by omega
    go_enter Try.func28, Try.ntmps28
    go_wp2_with fail
    go_ret
    exact ⟨rfl, 0, rfl⟩
end Go.Proofs.Ytchimfgbdfmegab
/- The empty node: what is read of it, and how it looks. -/
namespace Go.Proofs.Ytchimfgbdfmegab
open Go.RowKit Go.Lib
set_option linter.unusedVariables false
set_option maxRecDepth 100000
set_option linter.unusedSimpArgs false
set_option maxRecDepth 100000
theorem text_any (L : List Nat) (A : Option Addr) (c : Nat) (s : ByteArray) (w : World) (hf : FullB w (.slice A L.length L.length) L) (hc : L.length ≤ c) (hL : L.length ≤ 100000000000) (hs : s.size ≤ 1000000) :
    Calls Try.prog 60 #[.slice A L.length c, .string s] w (MadeB (L ++ textB s) w) := by
  have kt := withText_full _ L s w hf hL hs
  clear hf
  obtain ⟨M, hM⟩ : ∃ M, M = L ++ textB s := ⟨_, rfl⟩
  rw [← hM] at kt ⊢
  clear hM
  generalize L.length = n at *
  go_enter Try.func60, Try.ntmps60
  go_wp2_with fail
  refine kt.mono ?_
  rintro e w1 ⟨v1, rfl, ho, hB⟩
  go_wp2_with fail
  go_ret
  exact ⟨_, rfl, ho, hB⟩
end Go.Proofs.Ytchimfgbdfmegab
/- What the functions of package chunk, and the reference's At, return, as contracts of their translations: for every argument. -/
namespace Go.Proofs.Ytchimfgbdfmegab
open Go.RowKit
set_option linter.unusedVariables false
set_option maxRecDepth 100000
set_option maxRecDepth 100000

theorem ret_int {k : IntKind} {a b : Int} (h : a = b) : Ending.returned (.int k a) = .returned (.int k b) := by rw [h]
/-- how many of the lowest n bits are set -/
def cnt : Nat → Nat → Nat
  | 0, _ => 0
  | n + 1, b => b % 2 + cnt n (b / 2)
theorem cnt_le (n b : Nat) : cnt n b ≤ n := by
  induction n generalizing b with
  | zero => simp [cnt]
  | succ n ih => have := ih (b / 2); simp only [cnt]; omega
theorem cnt_add (m n b : Nat) : cnt (m + n) b = cnt m b + cnt n (b / 2 ^ m) := by
  induction m generalizing b with
  | zero => simp [cnt]
  | succ m ih =>
    rw [show m + 1 + n = (m + n) + 1 by omega]
    simp only [cnt]
    rw [ih, Nat.div_div_eq_div_mul, Nat.pow_succ', Nat.add_assoc]
theorem cnt_mod (n b : Nat) : cnt n (b % 2 ^ n) = cnt n b := by
  induction n generalizing b with
  | zero => simp [cnt]
  | succ n ih =>
    simp only [cnt]
    rw [Nat.pow_succ', Nat.mod_mul_right_mod, Nat.mod_mul_right_div_self, ih]
theorem cnt_32 (b : Nat) (h : b < 4294967296) : cnt 32 b = cnt 8 (b / 16777216) + cnt 8 (b / 65536 % 256) + cnt 8 (b / 256 % 256) + cnt 8 (b % 256) := by
  have e1 := cnt_mod 8 (b / 65536)
  have e2 := cnt_mod 8 (b / 256)
  have e3 := cnt_mod 8 b
  simp only [Nat.reducePow] at e1 e2 e3
  rw [e1, e2, e3]
  rw [show 32 = 8 + (8 + (8 + 8)) from rfl]
  simp only [cnt_add, Nat.div_div_eq_div_mul, Nat.reducePow, Nat.reduceMul]
  omega
def popList : List UInt8 := (List.range 256).map fun i => (cnt 8 i).toUInt8

theorem pop_at (s : ByteArray) (hs : s.data.toList = popList) (i : Nat) (h : i < s.size) : (s[i]'h).toNat = cnt 8 i := by
  have h1 : i < s.data.toList.length := by simpa using h
  have e : s[i]'h = s.data.toList[i]'h1 := rfl
  rw [e]
  simp only [hs]
  have : cnt 8 i < 256 := by have := cnt_le 8 i; omega
  simp [popList, Nat.toUInt8]
  exact this
theorem pop_size (s : ByteArray) (hs : s.data.toList = popList) : s.size = 256 := by
  have : s.data.toList.length = s.size := by simp
  rw [← this, hs]; simp [popList]

theorem quiet_pop {P : Program} {C : World → Prop} {a : Act} {o : Oper} {K : Act → Prop} (t : TypeId) (s : ByteArray) (y : Operand) (k : IntKind) (i : Nat)
    (h : o.op = .index t (.const (.string s)) y) (hs : s.data.toList = popList) (he : a.eval y = .int k i) (hu : P.underlying t = some .string) (h1 : i < 256)
    (hk : K (a.put o.dst (.int .u8 (cnt 8 i)))) : o.quiet P a C K := by
  refine ⟨_, fun w _ => ?_, hk⟩
  unfold Oper.quietAt
  have hz := pop_size s hs
  have hp := pop_at s hs i (by omega)
  have hr := run_index_string (P := P) w t s k i hu
  rw [dif_pos (by omega)] at hr
  simp only [Int.toNat_natCast, hp] at hr
  simp [execOp, h, BigFrame.eval_const, he, hr, Oper.quietUpon]
theorem and255 (a : Nat) : a &&& 255 = a % 256 := Nat.and_two_pow_sub_one_eq_mod a 8
theorem bv32 (a : Nat) (ha : a < 4294967296) : (BitVec.ofInt 32 (a : Int)).toNat = a := by
  rw [BitVec.ofInt_natCast, BitVec.toNat_ofNat]; exact Nat.mod_eq_of_lt (by omega)
theorem and_u32 (a b : Nat) (ha : a < 4294967296) (hb : b < 4294967296) : bits .and .u32 (a : Int) (b : Int) = ((a &&& b : Nat) : Int) := by
  have hx : a &&& b < 2 ^ 32 := Nat.and_lt_two_pow _ (by omega)
  show IntKind.u32.wrap ((BitVec.ofInt 32 (a : Int) &&& BitVec.ofInt 32 (b : Int)).toNat : Int) = _
  rw [BitVec.toNat_and, bv32 a ha, bv32 b hb, IntKind.wrap_u32]
  omega
theorem or_u32 (a b : Nat) (ha : a < 4294967296) (hb : b < 4294967296) : bits .or .u32 (a : Int) (b : Int) = ((a ||| b : Nat) : Int) := by
  have hx : a ||| b < 2 ^ 32 := Nat.or_lt_two_pow (by omega) (by omega)
  show IntKind.u32.wrap ((BitVec.ofInt 32 (a : Int) ||| BitVec.ofInt 32 (b : Int)).toNat : Int) = _
  rw [BitVec.toNat_or, bv32 a ha, bv32 b hb, IntKind.wrap_u32]
  omega
theorem and255_u32 (x : Int) (h0 : 0 ≤ x) (ha : x < 4294967296) : bits .and .u32 x 255 = x % 256 := by
  obtain ⟨a, rfl⟩ := Int.eq_ofNat_of_zero_le h0
  have h := and_u32 a 255 (by omega) (by omega)
  rw [and255] at h
  exact h

theorem pow32 (n : Nat) : (2 : Int) ^ (5 * n) = 32 ^ n := by
  rw [Int.pow_mul]; rfl

theorem atVal (h lv : Int) (h0 : 0 ≤ h) (hl : 0 ≤ lv) : wrap64 ((h / 2 ^ (5 * lv).toNat).tmod 32) = h / 32 ^ lv.toNat % 32 := by
  have e : (5 * lv).toNat = 5 * lv.toNat := by omega
  rw [e, pow32]
  have hp : (0 : Int) ≤ h / 32 ^ lv.toNat := Int.ediv_nonneg h0 (Int.le_of_lt (Int.pow_pos (by decide)))
  rw [Int.tmod_eq_emod_of_nonneg hp]
  generalize h / 32 ^ lv.toNat = x at hp
  unfold wrap64
  omega

/-- what chunk.At tells -/
def atZ (h lv : Int) : Int := if lv < 0 ∨ 13 ≤ lv then 0 else (h / 32 ^ lv.toNat) % 32
theorem div32 (h : Int) (k : Nat) : h / 32 ^ k / 32 = h / 32 ^ (k + 1) := by
  rw [Int.ediv_ediv_of_nonneg (Int.le_of_lt (Int.pow_pos (by decide))), Int.pow_succ]
theorem div32_nonneg (h : Int) (k : Nat) (h0 : 0 ≤ h) : 0 ≤ h / 32 ^ k := Int.ediv_nonneg h0 (Int.le_of_lt (Int.pow_pos (by decide)))
theorem div32_le (h : Int) (k : Nat) (h0 : 0 ≤ h) : h / 32 ^ k ≤ h := by
  exact Int.ediv_le_self _ h0

/-- the set of i alone -/
def onl (i : Int) : Nat := if 0 ≤ i ∧ i < 32 then 2 ^ i.toNat else 0
theorem onl_lt (i : Int) : onl i < 4294967296 := by
  unfold onl
  split
  · have : 2 ^ i.toNat < 2 ^ 32 := Nat.pow_lt_pow_right (by decide) (by omega)
    omega
  · decide

theorem pow_u32 (n : Nat) (h : n < 32) : (2 : Int) ^ n % 4294967296 = ((2 ^ n : Nat) : Int) := by
  have h2 : 2 ^ n < 2 ^ 32 := Nat.pow_lt_pow_right (by decide) h
  have e : ((2 ^ n : Nat) : Int) = (2 : Int) ^ n := by simp
  rw [← e]
  generalize 2 ^ n = x at h2 ⊢
  omega
/-- the set without those of another -/
def wo (b c : Nat) : Nat := b &&& (4294967295 - c)
theorem andNot_u32 (a b : Nat) (ha : a < 4294967296) (hb : b < 4294967296) : bits .andNot .u32 (a : Int) (b : Int) = (wo a b : Int) := by
  have hx : a &&& (4294967295 - b) < 2 ^ 32 := Nat.and_lt_two_pow _ (by omega)
  show IntKind.u32.wrap ((BitVec.ofInt 32 (a : Int) &&& ~~~ BitVec.ofInt 32 (b : Int)).toNat : Int) = _
  rw [BitVec.toNat_and, BitVec.toNat_not, bv32 a ha, bv32 b hb, IntKind.wrap_u32]
  unfold wo
  simp only [Nat.reducePow, Nat.reduceSub]
  omega
theorem cnt_zero (n : Nat) : cnt n 0 = 0 := by
  induction n with
  | zero => rfl
  | succ n ih => simp [cnt, ih]
theorem cnt_low (n m b : Nat) (h : n ≤ m) : cnt m (b % 2 ^ n) = cnt n b := by
  obtain ⟨k, rfl⟩ := Nat.exists_eq_add_of_le h
  rw [cnt_add, cnt_mod, Nat.div_eq_of_lt (Nat.mod_lt _ (Nat.two_pow_pos n)), cnt_zero]; rfl
theorem cnt_high (n b : Nat) (h : b < 4294967296) (hn : 32 ≤ n) : cnt n b = cnt 32 b := by
  have := cnt_low 32 n b hn
  rw [Nat.mod_eq_of_lt h] at this
  exact this
/-- how many numbers of the set are less than i -/
def rnk (b : Nat) (i : Int) : Nat := cnt i.toNat b
theorem low_u32 (b n : Nat) (h1 : b < 4294967296) (hn : n < 32) : bits .and .u32 (b : Int) (((onl n : Nat) - 1 : Int) % 4294967296) = ((b % 2 ^ n : Nat) : Int) := by
  have e : onl (n : Int) = 2 ^ n := by simp [onl]; omega
  have h2 : 2 ^ n < 2 ^ 32 := Nat.pow_lt_pow_right (by decide) hn
  have h3 : 0 < 2 ^ n := Nat.two_pow_pos n
  have h4 := and_u32 b (2 ^ n - 1) h1 (by omega)
  rw [Nat.and_two_pow_sub_one_eq_mod] at h4
  rw [e, ← h4]
  exact congrArg (bits .and .u32 (b : Int)) (by omega)

end Go.Proofs.Ytchimfgbdfmegab
/- The numbers of a set, and the contract of the iterator of package chunk: it hands over the numbers of the set in order. -/
namespace Go.Proofs.Ytchimfgbdfmegab.Its
open Go.RowKit Go.Shelf
set_option linter.unusedVariables false
set_option maxRecDepth 100000
set_option maxRecDepth 100000
set_option linter.unusedSimpArgs false
attribute [local go_sem] Oper.semAt_some

/-- block g is just these cells, none of them frozen -/
def CBlk (w : World) (g : Nat) (t : TypeId) (cs : Array Value) : Prop := w.heap[g]? = some (.cells cs t (0, 0))
theorem CBlk.lt {w : World} {g : Nat} {t : TypeId} {cs : Array Value} (h : CBlk w g t cs) : g < w.heap.size := by
  rcases Nat.lt_or_ge g w.heap.size with hlt | hge
  · exact hlt
  · unfold CBlk at h; rw [Array.getElem?_eq_none hge] at h; cases h
theorem CBlk.cell {w : World} {g : Nat} {t : TypeId} {cs : Array Value} (h : CBlk w g t cs) (i : Nat) : w.cell? ⟨g, i, none⟩ = cs[i]? := cell_of_row w g i cs t (0, 0) h
theorem CBlk.frozen {w : World} {g : Nat} {t : TypeId} {cs : Array Value} (h : CBlk w g t cs) (i : Nat) : w.frozen? ⟨g, i, none⟩ = false := by
  unfold CBlk at h
  simp [World.frozen?, h]
theorem CBlk.new (w : World) (t : TypeId) (cs : Array Value) : CBlk (w.alloc (.cells cs t)) w.heap.size t cs := heap_alloc_new w _
theorem CBlk.alloc {w : World} {g : Nat} {t : TypeId} {cs : Array Value} (h : CBlk w g t cs) (o : Obj) : CBlk (w.alloc o) g t cs := (Below.heap_alloc w o g h.lt).trans h
theorem CBlk.below {w w' : World} {g : Nat} {t : TypeId} {cs : Array Value} {B : Nat} (h : CBlk w g t cs) (hb : Below B w w') (hg : g < B) : CBlk w' g t cs := (hb.block g hg).trans h

/-- the numbers of a set that are less than k, rising -/
def elsTo (b k : Nat) : List Nat := (List.range k).filter fun i => b.testBit i
theorem elsTo_succ (b k : Nat) : elsTo b (k + 1) = elsTo b k ++ if b.testBit k then [k] else [] := by
  unfold elsTo
  rw [List.range_succ, List.filter_append]
  cases h : b.testBit k <;> simp [h]
theorem elsTo_yes (b k : Nat) (h : b.testBit k = true) : elsTo b (k + 1) = elsTo b k ++ [k] := by rw [elsTo_succ, if_pos h]
theorem elsTo_no (b k : Nat) (h : b.testBit k = false) : elsTo b (k + 1) = elsTo b k := by rw [elsTo_succ, h]; simp
theorem elsTo_prefix (b k m : Nat) (h : k ≤ m) : elsTo b k <+: elsTo b m := by
  induction m with
  | zero => obtain rfl : k = 0 := by omega
            exact List.prefix_refl _
  | succ m ih =>
    by_cases e : k = m + 1
    · subst e; exact List.prefix_refl _
    · refine List.IsPrefix.trans (ih (by omega)) ?_
      rw [elsTo_succ]; exact List.prefix_append _ _
theorem elsTo_len (b k m : Nat) (h : k < m) (ht : b.testBit k = true) : (elsTo b k).length < (elsTo b m).length := by
  have h1 := (elsTo_prefix b (k + 1) m h).length_le
  rw [elsTo_yes b k ht] at h1
  simp at h1
  omega
theorem has_bit (b k : Nat) (hk : k < 32) : (b &&& onl k != 0) = b.testBit k := by
  have e : onl (k : Int) = 2 ^ k := by simp [onl]; omega
  rw [e, Nat.testBit_eq_decide_div_mod_eq]
  have h1 : b &&& 2 ^ k = if b.testBit k then 2 ^ k else 0 := by
    apply Nat.eq_of_testBit_eq
    intro i
    rw [Nat.testBit_and, Nat.testBit_two_pow]
    by_cases hi : k = i
    · subst hi
      cases h : b.testBit k <;> simp [h]
    · cases h : b.testBit k <;> simp [hi]
  rw [h1, Nat.testBit_eq_decide_div_mod_eq]
  have hp : 2 ^ k ≠ 0 := Nat.ne_of_gt (Nat.two_pow_pos k)
  by_cases hd : b / 2 ^ k % 2 = 1 <;> simp [hd, hp]
/-- what a round must keep: the block of the set that the iterator reads -/
def KpB (B : Nat) (W W' : World) : Prop := W'.heap[B]? = W.heap[B]?
theorem KpB_t {B : Nat} {X Y Z : World} (h : KpB B X Y) (k : KpB B Y Z) : KpB B X Z := Eq.trans k h
theorem KpB_b {B : Nat} {w : World} (hB : B < w.heap.size) (W : World) (l : Nat) (o o' : Obj) (hl : w.heap.size ≤ l) (h : W.heap[l]? = some o) (_ : o.isCells = false) (_ : o.isWalk = false) : KpB B W (W.putObj l o') :=
  World.putObj_heap_other (by omega)

end Go.Proofs.Ytchimfgbdfmegab.Its
