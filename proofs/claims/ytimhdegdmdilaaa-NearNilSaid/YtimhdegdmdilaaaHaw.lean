/- The questions of near, put to the tree that isn't there. -/
import Derived.Test.YtimhdegdmdilaaaHav
import Derived.WideMake
import Derived.Laws.EntriesVeiled
namespace Go.Proofs.Ytimhdegdmdilaaa
open Go.RowKit Go.Lib
set_option linter.unusedVariables false
set_option linter.unnecessarySimpa false
set_option linter.unusedSimpArgs false
set_option linter.unnecessarySimpa false
set_option maxRecDepth 100000
theorem kids_nil (w : World) : Calls Try.prog 64 #[.pointer none] w fun e w' => e = .returned (.slice none 0 0) ∧ w = w' := by
  go_enter Try.func64, Try.ntmps64
  go_wp2_with fail
  go_ret
  exact ⟨rfl, rfl⟩
section
variable {P : Program} (w : World)
theorem run_checkKey_ptr {kt t : TypeId} (hk : P.underlying kt = some (.pointer t)) (a : Option Addr) (b : Bool) : (Instr.checkKey b 10000 kt (.pointer a)).run P w = .ok () w := by
  show (Instr.checkKey b (9999 + 1) kt (.pointer a)).run P w = .ok () w
  unfold Instr.checkKey
  simp [run_underlying hk]
theorem run_findKey_ptr0 {kt t : TypeId} (hk : P.underlying kt = some (.pointer t)) (a : Option Addr) : (Instr.findKey kt (.pointer a) []).run P w = .ok none w := by
  unfold Instr.findKey
  simp [run_underlying hk, Instr.findNow]
theorem run_lookup_ptr0 (mty kt t et : TypeId) (q : IntKind) (r clock : Nat) (a : Option Addr) (hm : P.underlying mty = some (.map kt et)) (hk : P.underlying kt = some (.pointer t)) (he : (zeroValue et).run P w = .ok (.int q 0) w) (hb : w.heap[r]? = some (.map #[] clock)) :
    (Instr.lookup mty (.map (some r)) (.pointer a) true).run P w = .ok (.tuple #[.int q 0, .bool false]) w := by
  simp [Instr.lookup, run_underlying hm, MapKept.run_getObj_map hb, run_checkKey_ptr w hk, run_findKey_ptr0 w hk, he, Result.andThen]
theorem run_mapUpdate_ptr0 (mty kt t et : TypeId) (r clock : Nat) (a : Option Addr) (val : Value) (hm : P.underlying mty = some (.map kt et)) (hk : P.underlying kt = some (.pointer t)) (hb : w.heap[r]? = some (.map #[] clock)) :
    (Instr.mapUpdate mty (.map (some r)) (.pointer a) val).run P w = .ok () { w with heap := w.heap.setIfInBounds r (.map #[{ key := .pointer a, val := val, born := clock }] (clock + 1)) } := by
  simp [Instr.mapUpdate, run_underlying hm, MapKept.run_getObj_map hb, run_checkKey_ptr w hk, run_findKey_ptr0 w hk, MapKept.run_setObj_map _ hb, Result.andThen]
end
theorem below_put {B R : Nat} (W : World) (h : B ≤ R) (o : Obj) : Below B W { W with heap := W.heap.setIfInBounds R o } := ⟨rfl, rfl, rfl, by simp, fun i hi => Array.getElem?_setIfInBounds_ne (by omega)⟩
set_option maxHeartbeats 1000000 in
theorem count_nil (base N1 N2 r clock : Nat) (w : World) (hb : base ≤ r) (hbw : base ≤ w.heap.size) (h1 : Blk w N1 91 #[.map (some r)]) (hm : w.heap[r]? = some (.map #[] clock)) :
    Calls Try.prog 93 #[.pointer none, .pointer (some ⟨N1, 0, none⟩), .pointer (some ⟨N2, 0, none⟩)] w fun e w' => e = .returned (.int .i64 0) ∧ w' = { w with heap := w.heap.setIfInBounds r (.map #[{ key := .pointer none, val := .int .i64 0, born := clock }] (clock + 1)) } := by
  have c1 := h1.cell 0
  have hl := run_lookup_ptr0 w 91 24 132 3 .i64 r clock none Try.underlying91 Try.underlying24 (by simp [zeroValue]; kernel_rfl) hm
  have hu := run_mapUpdate_ptr0 w 91 24 132 3 r clock none (.int .i64 0) Try.underlying91 Try.underlying24 hm
  have kv := value_nil w
  have kk := kids_nil w
  go_enter Try.func93, Try.ntmps93
  go_wp2_with fail
  refine kv.mono ?_
  rintro e w' ⟨rfl, rfl⟩
  go_wp2_with fail
  refine kk.mono ?_
  rintro e w' ⟨rfl, rfl⟩
  clear kv kk hl
  go_wp2_with fail
  go_loopw [5, 28] (fun v5 vi wr => v5 = .int .i64 0 ∧ vi = .int .i64 0 ∧ wr = w) (fun _ _ _ => 0)
  case atStart => exact ⟨rfl, rfl, rfl⟩
  case round =>
    obtain ⟨rfl, rfl, rfl⟩ := hrel
    go_wp2_with fail
    go_ret
    exact ⟨rfl, rfl⟩
set_option maxHeartbeats 1000000 in
theorem sizes_nil (w : World) : Calls Try.prog 61 #[.pointer none] w fun e w' => (∃ r, e = .returned (.map (some r))) ∧ Below w.heap.size w w' := by
  have hmm := @run_makeMap Try.prog
  have hB := (((Below.refl _ w).alloc (Nat.le_refl _) (.map #[] 0)).alloc (by simp) (.cells #[.map (some w.heap.size)] 91)).alloc (by simp; omega) (.cells #[.func (.func 93) #[] #[.pointer (some ⟨w.heap.size + 1, 0, none⟩), .pointer (some ⟨w.heap.size + 1 + 1, 0, none⟩)]] 137)
  have b1 := (Blk.new (w.alloc (.map #[] 0)) 91 #[.map (some w.heap.size)]).alloc (.cells #[.func (.func 93) #[] #[.pointer (some ⟨w.heap.size + 1, 0, none⟩), .pointer (some ⟨w.heap.size + 1 + 1, 0, none⟩)]] 137)
  have b2 := Blk.new ((w.alloc (.map #[] 0)).alloc (.cells #[.map (some w.heap.size)] 91)) 137 #[.func (.func 93) #[] #[.pointer (some ⟨w.heap.size + 1, 0, none⟩), .pointer (some ⟨w.heap.size + 1 + 1, 0, none⟩)]]
  have m0 : (((w.alloc (.map #[] 0)).alloc (.cells #[.map (some w.heap.size)] 91)).alloc (.cells #[.func (.func 93) #[] #[.pointer (some ⟨w.heap.size + 1, 0, none⟩), .pointer (some ⟨w.heap.size + 1 + 1, 0, none⟩)]] 137)).heap[w.heap.size]? = some (.map #[] 0) :=
    (Below.heap_alloc _ _ _ (by simp; omega)).trans ((Below.heap_alloc _ _ _ (by simp)).trans (World.alloc_heap_new w _))
  simp only [World.size_alloc] at b1 b2
  go_enter Try.func61, Try.ntmps61
  go_upto_region 4 with (fail)
  generalize ((w.alloc (.map #[] 0)).alloc (.cells #[.map (some w.heap.size)] 91)).alloc (.cells #[.func (.func 93) #[] #[.pointer (some ⟨w.heap.size + 1, 0, none⟩), .pointer (some ⟨w.heap.size + 1 + 1, 0, none⟩)]] 137) = W0 at *
  have hR2 : w.heap.size ≠ w.heap.size + 1 := by omega
  generalize w.heap.size + 1 + 1 = N2 at *
  generalize w.heap.size + 1 = N1 at *
  obtain ⟨R, hR⟩ : ∃ R, R = w.heap.size := ⟨_, rfl⟩
  have hRw : w.heap.size ≤ R := by omega
  rw [← hR] at b1 m0 hR2 ⊢
  clear hR
  have c2 := b2.cell 0
  have kc := count_nil w.heap.size N1 N2 R 0 W0 hRw hB.size b1 m0
  go_wp2_with fail
  refine kc.mono ?_
  rintro e w' ⟨rfl, rfl⟩
  have hf : (w.heap.size ≤ R) := hRw
  have hB2 := hB.trans (below_put W0 hRw (.map #[⟨.pointer none, .int .i64 0, 0⟩] (0 + 1)))
  have b1' : Blk ({ W0 with heap := W0.heap.setIfInBounds R (.map #[⟨.pointer none, .int .i64 0, 0⟩] (0 + 1)) } : World) N1 91 #[.map (some R)] := by
    unfold Blk at b1 ⊢
    rw [← b1]
    exact Array.getElem?_setIfInBounds_ne hR2
  have c1 := b1'.cell 0
  clear kc b1 m0 b2 c2
  go_wp2_with fail
  go_ret
  exact ⟨⟨_, rfl⟩, hB2⟩
/-- Rank of the tree that isn't there -/
theorem rank_nil (key : ByteArray) (w : World) : Calls Try.prog 24 #[.pointer none, .string key] w fun e w' => e = .returned (.int .i64 0) ∧ Below w.heap.size w w' := by
  go_enter Try.func24, Try.ntmps24
  go_wp2_with fail
  refine (sizes_nil w).mono ?_
  rintro e w1 ⟨⟨r, rfl⟩, hB⟩
  go_wp2_with fail
  refine (way_nil key w1).mono ?_
  rintro e w2 ⟨rfl, hB2⟩
  have hB := hB.trans (hB2.mono hB.size)
  clear hB2
  go_wp2_with fail
  go_loopw [6, 19] (fun v6 vi wr => v6 = .int .i64 0 ∧ vi = .int .i64 0 ∧ Below w.heap.size w wr) (fun _ _ _ => 0)
  case atStart => exact ⟨rfl, rfl, hB⟩
  case round =>
    clear hB
    obtain ⟨rfl, rfl, hB⟩ := hrel
    go_wp2_with fail
    go_ret
    exact ⟨rfl, hB⟩
end Go.Proofs.Ytimhdegdmdilaaa
/- More questions, put to the tree that isn't there. -/
namespace Go.Proofs.Ytimhdegdmdilaaa
open Go.RowKit Go.Lib
set_option linter.unusedVariables false
set_option linter.unnecessarySimpa false
set_option linter.unusedSimpArgs false
set_option linter.unnecessarySimpa false
set_option maxRecDepth 100000
abbrev noneV : Value := .tuple #[.agg #[.string ⟨#[]⟩, .string ⟨#[]⟩], .bool false]
theorem key_nil (key : ByteArray) (w : World) : Blk (keyW w key) w.heap.size 29 #[.string ⟨#[]⟩, .string ⟨#[]⟩] ∧ Below w.heap.size w (keyW w key) := by
  have hB0 := (Below.refl _ w).alloc (Nat.le_refl _) (.cells #[.string ⟨#[]⟩, .string ⟨#[]⟩] 29)
  have bR := Blk.new w 29 #[.string ⟨#[]⟩, .string ⟨#[]⟩]
  have hb1 := bytes_below (w.alloc (.cells #[.string ⟨#[]⟩, .string ⟨#[]⟩] 29)) key
  exact ⟨bR.below hb1, hB0.trans (hb1.mono hB0.size)⟩
set_option maxHeartbeats 1000000 in
theorem first_nil (key : ByteArray) (w : World) : Calls Try.prog 62 #[.pointer none, .string key] w fun e w' => e = .returned noneV ∧ Below w.heap.size w w' := by
  have hcv := Go.Lib.run_convert_string_bytes (P := Try.prog) (w.alloc (.cells #[.string ⟨#[]⟩, .string ⟨#[]⟩] 29)) 9 79 5 key Try.underlying9 Try.underlying79 Try.underlying5
  obtain ⟨bR, hB⟩ := key_nil key w
  rw [World.size_alloc] at hcv
  go_enter Try.func62, Try.ntmps62
  go_wp2_with fail
  clear hcv
  obtain ⟨W0, hW0⟩ : ∃ W0, W0 = keyW w key := ⟨_, rfl⟩
  try rw [show bytesWorld (w.alloc (.cells #[.string ⟨#[]⟩, .string ⟨#[]⟩] 29)) 5 key = W0 from hW0.symm]
  rw [← hW0] at bR hB
  obtain ⟨N, hN⟩ : ∃ N, N = w.heap.size := ⟨_, rfl⟩
  have hNw : w.heap.size ≤ N := by omega
  rw [← hN] at bR ⊢
  clear hN hW0
  generalize grownCap (w.alloc (.cells #[.string ⟨#[]⟩, .string ⟨#[]⟩] 29)) key.size 0 5 = cap0 at *
  have z0 := bR.cell 0
  have z1 := bR.cell 1
  have zf := bR.frozen 0
  have zf1 := bR.frozen 1
  have HH := Lib.hid (And.intro (bR.set2 (.string ⟨#[]⟩) (.string ⟨#[]⟩)) ((hB.setCell (p := ⟨N, 0, none⟩) hNw (.string ⟨#[]⟩)).setCell (p := ⟨N, 1, none⟩) hNw (.string ⟨#[]⟩)))
  clear hB bR
  go_loopw [0] (fun v0 wr => v0 = .pointer none ∧ wr = W0) (fun _ _ => 0)
  case atStart => exact ⟨rfl, rfl⟩
  case round =>
    obtain ⟨rfl, rfl⟩ := hrel
    go_wp2_with fail
    refine (value_nil _).mono ?_
    rintro e w' ⟨rfl, rfl⟩
    go_wp2_with fail
    refine (kids_nil _).mono ?_
    rintro e w' ⟨rfl, rfl⟩
    go_wp2_with fail
    refine bodyPost_ret (ret_pair rfl _ _ N _ rfl HH.out.1 rfl) rfl ?_
    exact ⟨rfl, HH.out.2⟩
set_option maxHeartbeats 1000000 in
theorem last_nil (key : ByteArray) (w : World) : Calls Try.prog 63 #[.pointer none, .string key] w fun e w' => e = .returned noneV ∧ Below w.heap.size w w' := by
  have hcv := Go.Lib.run_convert_string_bytes (P := Try.prog) (w.alloc (.cells #[.string ⟨#[]⟩, .string ⟨#[]⟩] 29)) 9 79 5 key Try.underlying9 Try.underlying79 Try.underlying5
  obtain ⟨bR, hB⟩ := key_nil key w
  rw [World.size_alloc] at hcv
  go_enter Try.func63, Try.ntmps63
  go_wp2_with fail
  clear hcv
  obtain ⟨W0, hW0⟩ : ∃ W0, W0 = keyW w key := ⟨_, rfl⟩
  try rw [show bytesWorld (w.alloc (.cells #[.string ⟨#[]⟩, .string ⟨#[]⟩] 29)) 5 key = W0 from hW0.symm]
  rw [← hW0] at bR hB
  obtain ⟨N, hN⟩ : ∃ N, N = w.heap.size := ⟨_, rfl⟩
  have hNw : w.heap.size ≤ N := by omega
  rw [← hN] at bR ⊢
  clear hN hW0
  generalize grownCap (w.alloc (.cells #[.string ⟨#[]⟩, .string ⟨#[]⟩] 29)) key.size 0 5 = cap0 at *
  have z0 := bR.cell 0
  have z1 := bR.cell 1
  have zf := bR.frozen 0
  have zf1 := bR.frozen 1
  have HH := Lib.hid (And.intro (bR.set2 (.string ⟨#[]⟩) (.string ⟨#[]⟩)) ((hB.setCell (p := ⟨N, 0, none⟩) hNw (.string ⟨#[]⟩)).setCell (p := ⟨N, 1, none⟩) hNw (.string ⟨#[]⟩)))
  clear hB bR
  refine (kids_nil _).mono ?_
  rintro e w' ⟨rfl, rfl⟩
  go_wp2_with fail
  go_loopw [0, 7] (fun v0 v7 wr => v0 = .pointer none ∧ v7 = .slice none 0 0 ∧ wr = W0) (fun _ _ _ => 0)
  case atStart => exact ⟨rfl, rfl, rfl⟩
  case round =>
    obtain ⟨rfl, rfl, rfl⟩ := hrel
    go_wp2_with fail
    refine (value_nil _).mono ?_
    rintro e w' ⟨rfl, rfl⟩
    go_wp2_with fail
    refine bodyPost_ret (ret_pair rfl _ _ N _ rfl HH.out.1 rfl) rfl ?_
    exact ⟨rfl, HH.out.2⟩
set_option maxHeartbeats 1000000 in
theorem min_nil (w : World) : Calls Try.prog 26 #[.pointer none] w fun e w' => e = .returned noneV ∧ Below w.heap.size w w' := by
  have hB := (Below.refl _ w).alloc (Nat.le_refl _) (.cells #[.string ⟨#[]⟩, .string ⟨#[]⟩] 29)
  have bR := Blk.new w 29 #[.string ⟨#[]⟩, .string ⟨#[]⟩]
  go_enter Try.func26, Try.ntmps26
  go_wp2_with fail
  generalize w.alloc (.cells #[.string ⟨#[]⟩, .string ⟨#[]⟩] 29) = W0 at *
  obtain ⟨N, hN⟩ : ∃ N, N = w.heap.size := ⟨_, rfl⟩
  have hNw : w.heap.size ≤ N := by omega
  rw [← hN] at bR ⊢
  clear hN
  refine (first_nil _ W0).mono ?_
  rintro e W2 ⟨rfl, hB2⟩
  have bR := bR.below hB2
  have hB := hB.trans (hB2.mono hB.size)
  have z0 := bR.cell 0
  have z1 := bR.cell 1
  have zf := bR.frozen 0
  have zf1 := bR.frozen 1
  have HH := Lib.hid (And.intro (bR.set2 (.string ⟨#[]⟩) (.string ⟨#[]⟩)) ((hB.setCell (p := ⟨N, 0, none⟩) hNw (.string ⟨#[]⟩)).setCell (p := ⟨N, 1, none⟩) hNw (.string ⟨#[]⟩)))
  clear hB bR hB2
  go_wp2_with fail
  refine bodyPost_ret (ret_pair2t rfl _ _ N _ rfl HH.out.1 rfl) rfl ?_
  exact ⟨rfl, HH.out.2⟩
set_option maxHeartbeats 1000000 in
theorem max_nil (w : World) : Calls Try.prog 27 #[.pointer none] w fun e w' => e = .returned noneV ∧ Below w.heap.size w w' := by
  have hB := (Below.refl _ w).alloc (Nat.le_refl _) (.cells #[.string ⟨#[]⟩, .string ⟨#[]⟩] 29)
  have bR := Blk.new w 29 #[.string ⟨#[]⟩, .string ⟨#[]⟩]
  go_enter Try.func27, Try.ntmps27
  go_wp2_with fail
  generalize w.alloc (.cells #[.string ⟨#[]⟩, .string ⟨#[]⟩] 29) = W0 at *
  obtain ⟨N, hN⟩ : ∃ N, N = w.heap.size := ⟨_, rfl⟩
  have hNw : w.heap.size ≤ N := by omega
  rw [← hN] at bR ⊢
  clear hN
  refine (last_nil _ W0).mono ?_
  rintro e W2 ⟨rfl, hB2⟩
  have bR := bR.below hB2
  have hB := hB.trans (hB2.mono hB.size)
  have z0 := bR.cell 0
  have z1 := bR.cell 1
  have zf := bR.frozen 0
  have zf1 := bR.frozen 1
  have HH := Lib.hid (And.intro (bR.set2 (.string ⟨#[]⟩) (.string ⟨#[]⟩)) ((hB.setCell (p := ⟨N, 0, none⟩) hNw (.string ⟨#[]⟩)).setCell (p := ⟨N, 1, none⟩) hNw (.string ⟨#[]⟩)))
  clear hB bR hB2
  go_wp2_with fail
  refine bodyPost_ret (ret_pair2t rfl _ _ N _ rfl HH.out.1 rfl) rfl ?_
  exact ⟨rfl, HH.out.2⟩
set_option maxHeartbeats 1000000 in
theorem getn_nil (key : ByteArray) (w : World) : Calls Try.prog 68 #[.pointer none, .string key] w fun e w' => e = .returned (.tuple #[.string ⟨#[]⟩, .bool false]) ∧ w = w' := by
  go_enter Try.func68, Try.ntmps68
  go_wp2_with fail
  go_loopw [1, 6] (fun vk vn wr => vk = .string key ∧ vn = .pointer none ∧ wr = w) (fun _ _ _ => 0)
  case atStart => exact ⟨rfl, rfl, rfl⟩
  case round =>
    obtain ⟨rfl, rfl, rfl⟩ := hrel
    go_wp2_with fail
    refine (value_nil _).mono ?_
    rintro e w' ⟨rfl, rfl⟩
    go_wp2_with fail
    refine bodyPost_ret (v := .tuple #[.string ⟨#[]⟩, .bool false]) (by simp [results, Try.f68, go_sem]) rfl ?_
    exact ⟨rfl, rfl⟩
set_option maxHeartbeats 1000000 in
theorem floor_nil (key : ByteArray) (w : World) : Calls Try.prog 32 #[.pointer none, .string key] w fun e w' => e = .returned noneV ∧ Below w.heap.size w w' := by
  have hB := (Below.refl _ w).alloc (Nat.le_refl _) (.cells #[.string ⟨#[]⟩, .string ⟨#[]⟩] 29)
  have bR := Blk.new w 29 #[.string ⟨#[]⟩, .string ⟨#[]⟩]
  go_enter Try.func32, Try.ntmps32
  go_wp2_with fail
  generalize w.alloc (.cells #[.string ⟨#[]⟩, .string ⟨#[]⟩] 29) = W0 at *
  obtain ⟨N, hN⟩ : ∃ N, N = w.heap.size := ⟨_, rfl⟩
  have hNw : w.heap.size ≤ N := by omega
  rw [← hN] at bR ⊢
  clear hN
  refine (getn_nil key W0).mono ?_
  rintro e W1 ⟨rfl, rfl⟩
  go_wp2_with fail
  have kb := below_nil key W0
  unfold entV at kb
  dsimp only at kb
  refine kb.mono ?_
  rintro e W2 ⟨rfl, hB2⟩
  have bR := bR.below hB2
  have hB := hB.trans (hB2.mono hB.size)
  have z0 := bR.cell 0
  have z1 := bR.cell 1
  have zf := bR.frozen 0
  have zf1 := bR.frozen 1
  have HH := Lib.hid (And.intro (bR.set2 (.string ⟨#[]⟩) (.string ⟨#[]⟩)) ((hB.setCell (p := ⟨N, 0, none⟩) hNw (.string ⟨#[]⟩)).setCell (p := ⟨N, 1, none⟩) hNw (.string ⟨#[]⟩)))
  clear hB bR hB2 kb
  go_wp2_with fail
  refine bodyPost_ret (ret_pair rfl _ _ N _ rfl HH.out.1 rfl) rfl ?_
  exact ⟨rfl, HH.out.2⟩
set_option maxHeartbeats 1000000 in
theorem ceil_nil (key : ByteArray) (w : World) : Calls Try.prog 33 #[.pointer none, .string key] w fun e w' => e = .returned noneV ∧ Below w.heap.size w w' := by
  have hB := (Below.refl _ w).alloc (Nat.le_refl _) (.cells #[.string ⟨#[]⟩, .string ⟨#[]⟩] 29)
  have bR := Blk.new w 29 #[.string ⟨#[]⟩, .string ⟨#[]⟩]
  go_enter Try.func33, Try.ntmps33
  go_wp2_with fail
  generalize w.alloc (.cells #[.string ⟨#[]⟩, .string ⟨#[]⟩] 29) = W0 at *
  obtain ⟨N, hN⟩ : ∃ N, N = w.heap.size := ⟨_, rfl⟩
  have hNw : w.heap.size ≤ N := by omega
  rw [← hN] at bR ⊢
  clear hN
  refine (getn_nil key W0).mono ?_
  rintro e W1 ⟨rfl, rfl⟩
  go_wp2_with fail
  have kb := above_nil key W0
  unfold entV at kb
  dsimp only at kb
  refine kb.mono ?_
  rintro e W2 ⟨rfl, hB2⟩
  have bR := bR.below hB2
  have hB := hB.trans (hB2.mono hB.size)
  have z0 := bR.cell 0
  have z1 := bR.cell 1
  have zf := bR.frozen 0
  have zf1 := bR.frozen 1
  have HH := Lib.hid (And.intro (bR.set2 (.string ⟨#[]⟩) (.string ⟨#[]⟩)) ((hB.setCell (p := ⟨N, 0, none⟩) hNw (.string ⟨#[]⟩)).setCell (p := ⟨N, 1, none⟩) hNw (.string ⟨#[]⟩)))
  clear hB bR hB2 kb
  go_wp2_with fail
  refine bodyPost_ret (ret_pair rfl _ _ N _ rfl HH.out.1 rfl) rfl ?_
  exact ⟨rfl, HH.out.2⟩
set_option maxHeartbeats 1000000 in
theorem index_nil (f : Value) (w : World) : Calls Try.prog 65 #[.slice none 0 0, f] w fun e w' => e = .returned (.int .i64 (-1)) ∧ w = w' := by
  go_enter Try.func65, Try.ntmps65
  go_wp2_with fail
  go_loopw [8] (fun vi wr => vi = .int .i64 0 ∧ wr = w) (fun _ _ => 0)
  case atStart => exact ⟨rfl, rfl⟩
  case round =>
    obtain ⟨rfl, rfl⟩ := hrel
    go_wp2_with fail
    go_ret
    exact ⟨rfl, rfl⟩
set_option maxHeartbeats 2000000 in
theorem nth_nil (i : Int) (w : World) : Calls Try.prog 28 #[.pointer none, .int .i64 i] w fun e w' => e = .returned noneV ∧ Below w.heap.size w w' := by
  have hB := ((Below.refl _ w).alloc (Nat.le_refl _) (.cells #[.int .i64 i] 3)).alloc (by simp) (.cells #[.string ⟨#[]⟩, .string ⟨#[]⟩] 29)
  have b3 := (Blk.new w 3 #[.int .i64 i]).alloc (.cells #[.string ⟨#[]⟩, .string ⟨#[]⟩] 29)
  have bR := Blk.new (w.alloc (.cells #[.int .i64 i] 3)) 29 #[.string ⟨#[]⟩, .string ⟨#[]⟩]
  rw [World.size_alloc] at bR
  go_enter Try.func28, Try.ntmps28
  go_upto_region 1 with (fail)
  generalize (w.alloc (.cells #[.int .i64 i] 3)).alloc (.cells #[.string ⟨#[]⟩, .string ⟨#[]⟩] 29) = W0 at *
  have hNw : w.heap.size ≤ w.heap.size + 1 := by omega
  generalize w.heap.size + 1 = N at *
  obtain ⟨N3, hN⟩ : ∃ N, N = w.heap.size := ⟨_, rfl⟩
  rw [← hN] at b3 ⊢
  clear hN
  have y3 := b3.cell 0
  by_cases hi : i < 0
  · have z0 := bR.cell 0
    have z1 := bR.cell 1
    have zf := bR.frozen 0
    have zf1 := bR.frozen 1
    have HH := Lib.hid (And.intro (bR.set2 (.string ⟨#[]⟩) (.string ⟨#[]⟩)) ((hB.setCell (p := ⟨N, 0, none⟩) hNw (.string ⟨#[]⟩)).setCell (p := ⟨N, 1, none⟩) hNw (.string ⟨#[]⟩)))
    clear hB bR b3
    go_wp2_with fail
    refine bodyPost_ret (ret_pair rfl _ _ N _ rfl HH.out.1 rfl) rfl ?_
    exact ⟨rfl, HH.out.2⟩
  · go_wp2_with fail
    refine (sizes_nil W0).mono ?_
    rintro e W1 ⟨⟨r, rfl⟩, hB1⟩
    have hBl := (Below.refl _ W1).alloc (Nat.le_refl _) (.cells #[.map (some r)] 91)
    have bR := (bR.below hB1).below hBl
    have hB := hB.trans ((hB1.trans (hBl.mono hB1.size)).mono hB.size)
    clear hB1 hBl y3 b3
    go_upto_region 4 with (fail)
    generalize W1.alloc (.cells #[.map (some r)] 91) = W2 at *
    generalize W1.heap.size = N6 at *
    have z0 := bR.cell 0
    have z1 := bR.cell 1
    have zf := bR.frozen 0
    have zf1 := bR.frozen 1
    have HH := Lib.hid (And.intro (bR.set2 (.string ⟨#[]⟩) (.string ⟨#[]⟩)) ((hB.setCell (p := ⟨N, 0, none⟩) hNw (.string ⟨#[]⟩)).setCell (p := ⟨N, 1, none⟩) hNw (.string ⟨#[]⟩)))
    clear hB bR
    go_wp2_with fail
    go_loopw [7] (fun v7 wr => v7 = .pointer none ∧ wr = W2) (fun _ _ => 0)
    case atStart => exact ⟨rfl, rfl⟩
    case round =>
      obtain ⟨rfl, rfl⟩ := hrel
      go_wp2_with fail
      refine (value_nil _).mono ?_
      rintro e w' ⟨rfl, rfl⟩
      go_wp2_with fail
      refine (kids_nil _).mono ?_
      rintro e w' ⟨rfl, rfl⟩
      go_wp2_with fail
      refine (index_nil _ _).mono ?_
      rintro e w' ⟨rfl, rfl⟩
      go_wp2_with fail
      refine bodyPost_ret (ret_pair rfl _ _ N _ rfl HH.out.1 rfl) rfl ?_
      exact ⟨rfl, HH.out.2⟩
end Go.Proofs.Ytimhdegdmdilaaa
