/- PairRights: for every two lengths and byte the law returns true: which keys and values may be, by their bytes. Conditions: none beyond the given statement. -/
import Derived.Test.YtfipifjlmepooaaRows
import Derived.WalkKit
import Derived.ProofKit
import Derived.OpenShut
import Derived.ShutString
import Derived.ChangeOld
import Derived.Below
import Derived.Carry
import Derived.Lib.SmallJoins
import Derived.Deep.OwnRows
import Derived.Laws.BytesArg
import Derived.Deep.DeepCutAuto
import Derived.Test.YtfipifjlmepooaaPf
namespace Go.Proofs.Ytfipifjlmepooaa.pairRights
open Go.ChangeShapes Go.WideShapes Go.ChangeAt Go.RowKit Go.Joins Go.Lib
open Go.ChangeMaps (open_string shut_string)
set_option linter.unusedVariables false
set_option linter.unusedSimpArgs false

theorem own : ownKnob Try.prog.godebug = none := by kernel_rfl
theorem laidOut : laidOutB Try.prog = true := by kernel_rfl

theorem info5 : (Try.prog.info? 5).map (fun i => (i.zero, i.size, i.bytes)) = some (some (.int .u8 0), 1, 1) := by kernel_rfl
theorem mk44 (n : Nat) (h : n ≤ 5000) (w : World) : (Instr.makeSlice 44 (.int .i64 (n : Int)) (.int .i64 (n : Int))).run Try.prog w = .ok (.slice (some ⟨w.heap.size, 0, none⟩) n n) (w.alloc (.cells (madeCells #[.int .u8 0] n) 5)) :=
  run_make_row' 44 5 (.int .u8 0) 1 Try.underlying44 info5 rfl .i64 .i64 n (by omega) (by omega) w
/-- what Right tells of two lengths -/
def rightOf (k v : Nat) : Int := if 256 < k then 2 else if 4096 < v then 3 else 0
theorem right_any (s t : ByteArray) (w : World) : Calls Try.prog 28 #[.string s, .string t] w fun e w' => e = .returned (.int .i64 (rightOf s.size t.size)) ∧ w = w' := by
  unfold rightOf
  by_cases h1 : 256 < s.size
  · go_enter Try.func28, Try.ntmps28
    go_wp2
    go_ret
    exact ⟨rfl, rfl⟩
  · by_cases h2 : 4096 < t.size
    · go_enter Try.func28, Try.ntmps28
      go_wp2
      go_ret
      exact ⟨rfl, rfl⟩
    · go_enter Try.func28, Try.ntmps28
      go_wp2
      go_ret
      exact ⟨rfl, rfl⟩
theorem refRight_any (s t : ByteArray) (w : World) : Calls Try.prog 29 #[.string s, .string t] w fun e w' => e = .returned (.int .i64 (rightOf s.size t.size)) ∧ w = w' := by
  unfold rightOf
  by_cases h1 : 256 < s.size
  · go_enter Try.func29, Try.ntmps29
    go_wp2
    go_ret
    exact ⟨rfl, rfl⟩
  · by_cases h2 : 4096 < t.size
    · go_enter Try.func29, Try.ntmps29
      go_wp2
      go_ret
      exact ⟨rfl, rfl⟩
    · go_enter Try.func29, Try.ntmps29
      go_wp2
      go_ret
      exact ⟨rfl, rfl⟩
/-- the first cells of a block are these bytes -/
def Bts (w : World) (g : Nat) (xs : List Int) : Prop := ∀ i, i < xs.length → w.cell? ⟨g, i, none⟩ = some (.int .u8 (xs.getD i 0)) ∧ w.frozen? ⟨g, i, none⟩ = false
theorem made_get (z : Value) (n i : Nat) (h : i < n) : (madeCells #[z] n)[i]? = some z := by
  simp [madeCells, h, Nat.mod_one]
theorem bts_made (w : World) (n : Nat) : Bts (w.alloc (.cells (madeCells #[.int .u8 0] n) 5)) w.heap.size (List.replicate n 0) := fun i hi => by
  have hb := Blk.new w 5 (madeCells #[.int .u8 0] n)
  simp at hi
  refine ⟨?_, hb.frozen i⟩
  rw [hb.cell, made_get _ _ _ hi]
  simp [hi]
theorem Bts.below {w w' : World} {B g : Nat} {xs : List Int} (h : Bts w g xs) (hb : Below B w w') (hg : g < B) : Bts w' g xs := fun i hi =>
  ⟨(hb.cell (p := ⟨g, i, none⟩) hg).trans (h i hi).1, (hb.frozen (p := ⟨g, i, none⟩) hg).trans (h i hi).2⟩
theorem Bts.set_ {w : World} {g : Nat} {xs : List Int} (h : Bts w g xs) (j : Nat) (b : Int) (hj : j < xs.length) : Bts (w.setCell ⟨g, j, none⟩ (.int .u8 b)) g (xs.set j b) := fun i hi => by
  rw [List.length_set] at hi
  have h1 := h i hi
  have hj1 := h j hj
  constructor
  · by_cases e : i = j
    · subst e
      simp [go_sem, hj1.1, hj]
    · have e2 : (⟨g, i, none⟩ : Addr) ≠ ⟨g, j, none⟩ := fun h => e (congrArg Addr.off h)
      have : (w.setCell ⟨g, j, none⟩ (.int .u8 b)).cell? ⟨g, i, none⟩ = w.cell? ⟨g, i, none⟩ := by
        exact World.cell?_setCell_other (h := Ne.symm e2) ..
      rw [this, h1.1]
      simp [List.getD_eq_getElem?_getD, List.getElem?_set_ne (Ne.symm e)]
  · simp [go_sem, h1.2]
theorem Bts.far {w : World} {g g' j : Nat} {xs : List Int} (h : Bts w g xs) (hg : g ≠ g') (u : Value) : Bts (w.setCell ⟨g', j, none⟩ u) g xs := fun i hi => by
  have hb := Below.heap_setCell w ⟨g', j, none⟩ u g hg
  exact ⟨(World.cell?_of_block (a := ⟨g, i, none⟩) hb).trans (h i hi).1, (World.frozen?_of_block (a := ⟨g, i, none⟩) hb).trans (h i hi).2⟩
theorem two_made {B : Nat} {w0 : World} (wa : World) (X Y : Nat) (h : Below B w0 wa) (hB : B ≤ wa.heap.size) :
    Bts (((wa.alloc (.cells (madeCells #[.int .u8 0] X) 5)).alloc (.cells (madeCells #[.int .u8 0] Y) 5)).drew) wa.heap.size (List.replicate X 0) ∧ Bts (((wa.alloc (.cells (madeCells #[.int .u8 0] X) 5)).alloc (.cells (madeCells #[.int .u8 0] Y) 5)).drew) (wa.heap.size + 1) (List.replicate Y 0) ∧
    Below B w0 (((wa.alloc (.cells (madeCells #[.int .u8 0] X) 5)).alloc (.cells (madeCells #[.int .u8 0] Y) 5)).drew) := by
  refine ⟨?_, ?_, ((h.alloc hB _).alloc (by simp; omega) _).drew⟩
  · have h1 : Bts ((wa.alloc (.cells (madeCells #[.int .u8 0] X) 5)).alloc (.cells (madeCells #[.int .u8 0] Y) 5)) wa.heap.size (List.replicate X 0) :=
      (bts_made wa X).below ((Below.refl _ _).alloc (Nat.le_refl _) _) (by simp)
    exact h1
  · have h2 := bts_made (wa.alloc (.cells (madeCells #[.int .u8 0] X) 5)) Y
    have e : (wa.alloc (.cells (madeCells #[.int .u8 0] X) 5)).heap.size = wa.heap.size + 1 := by simp
    rw [e] at h2
    exact h2
theorem size_nums (xs : List Int) : (strOfNums xs).size = xs.length := by
  show ((xs.map fun n => UInt8.ofNat n.toNat).toArray).size = xs.length
  simp
set_option maxRecDepth 100000 in
set_option maxHeartbeats 8000000 in
theorem walk' (n m : Nat) (b : Int) (w : World) (h0 : n ≤ 65535) (h1 : m ≤ 65535) :
    Calls Try.prog 5 #[.int .u16 n, .int .u16 m, .int .u8 b] w fun e w' => e = .returned (.bool true) ∧ Below w.heap.size w w' := by
  obtain ⟨N, hN⟩ : ∃ N, N = n % 300 := ⟨_, rfl⟩
  obtain ⟨M, hM⟩ : ∃ M, M = m % 4200 := ⟨_, rfl⟩
  have hNl : N < 300 := by omega
  have hMl : M < 4200 := by omega
  have E1 : Int.tmod (n : Int) 300 = (N : Int) := by rw [Int.tmod_eq_emod_of_nonneg (by omega)]; omega
  have E2 : Int.tmod (m : Int) 4200 = (M : Int) := by rw [Int.tmod_eq_emod_of_nonneg (by omega)]; omega
  have E3 : (n : Int) % 300 = (N : Int) := by omega
  have E4 : (m : Int) % 4200 = (M : Int) := by omega
  have E5 : IntKind.i64.wrap (N : Int) = (N : Int) := IntWalk.i64_in _ (by omega)
  have E6 : IntKind.i64.wrap (M : Int) = (M : Int) := IntWalk.i64_in _ (by omega)
  have E7 : IntKind.i64.wrap (m : Int) = (m : Int) := IntWalk.i64_in _ (by omega)
  have hm1 := mk44 N (by omega)
  have hm2 := mk44 M (by omega)
  clear hN hM
  go_enter Try.func5, Try.ntmps5
  go_wp2_with fail
  refine (awake3 w).mono ?_
  rintro e wa ⟨rfl, hBa⟩
  go_upto_region 3 with (fail)
  go_cut [7, 8] (fun k v wx => ∃ g1 g2 : Nat, k = .slice (some ⟨g1, 0, none⟩) N N ∧ v = .slice (some ⟨g2, 0, none⟩) M M ∧ g1 ≠ g2 ∧ w.heap.size ≤ g1 ∧ Bts wx g1 (List.replicate N 0) ∧ Bts wx g2 (List.replicate M 0) ∧ Below w.heap.size w wx)
  case first =>
    go_region
    · go_wp2_with fail
      go_meet
      have h := two_made (B := w.heap.size) (w0 := w) wa N M hBa hBa.size
      exact ⟨_, _, rfl, rfl, by omega, hBa.size, h.1, h.2.1, h.2.2⟩
    · go_wp2_with fail
      go_meet
      have h := two_made (B := w.heap.size) (w0 := w) wa M N hBa hBa.size
      exact ⟨_, _, rfl, rfl, by omega, by have := hBa.size; omega, h.2.1, h.1, h.2.2⟩
  case rest =>
    obtain ⟨g1, g2, rfl, rfl, hne, hg1, hb1, hb2, hBc⟩ := hcut
    clear hBa E1 E2 E3 E4 E5 E6 E7 hm1 hm2
    go_wp2_with fail
    go_loopw [24] (fun i wr => ∃ (j : Nat) (xs : List Int), j ≤ N ∧ i = .int .i64 j ∧ Hid (xs.length = N) ∧ Bts wr g1 xs ∧ Bts wr g2 (List.replicate M 0) ∧ Below w.heap.size w wr) (fun i wr => N - (intOf i).toNat)
    case atStart => exact ⟨0, List.replicate N 0, by omega, rfl, Lib.hid (by simp), hb1, hb2, hBc⟩
    case round =>
      clear hb1 hb2 hBc
      obtain ⟨j, xs, hj, rfl, hL, hb1, hb2, hB⟩ := hrel
      by_cases hlt : j < N
      · obtain ⟨c1, f1⟩ := hb1 j (by rw [hL.out]; exact hlt)
        have h1 := Lib.hid (hb1.set_ j b (by rw [hL.out]; exact hlt))
        have h2 := Lib.hid (hb2.far (g' := g1) (j := j) (Ne.symm hne) (.int .u8 b))
        have h3 := Lib.hid (hB.setCell (p := ⟨g1, j, none⟩) hg1 (.int .u8 b))
        clear hb1 hb2 hB
        go_wp2_with fail
        exact ⟨⟨j + 1, xs.set j b, by omega, by go_num, Lib.hid (by rw [List.length_set]; exact hL.out), h1.out, h2.out, h3.out⟩, by simp [intOf]; omega⟩
      · have hc1 := fun d hd => run_convert_bytes_arg (P := Try.prog) wr 44 5 Try.underlying44 Try.underlying5 g1 0 N N xs hL.out (fun i hi => by rw [Nat.zero_add]; exact (hb1 i (by rw [hL.out]; exact hi)).1) d hd
        have hc2 := fun d hd => run_convert_bytes_arg (P := Try.prog) wr 44 5 Try.underlying44 Try.underlying5 g2 0 M M (List.replicate M 0) (by simp) (fun i hi => by rw [Nat.zero_add]; exact (hb2 i (by simpa using hi)).1) d hd
        have hk1 := hc1 9 Try.underlying9
        have hk2 := hc2 9 Try.underlying9
        have z1 : (strOfNums xs).size = N := by rw [size_nums]; exact hL.out
        have z2 : (strOfNums (List.replicate M 0)).size = M := by rw [size_nums]; simp
        generalize strOfNums xs = s1 at *
        generalize strOfNums (List.replicate M 0) = s2 at *
        have Z1 := Lib.hid z1
        have Z2 := Lib.hid z2
        clear hc1 hc2 hb1 hb2 z1 z2
        go_wp2_with fail
        refine (right_any s1 s2 _).mono ?_
        rintro e w' ⟨rfl, rfl⟩
        rw [Z1.out, Z2.out]
        by_cases hb1 : 256 < N
        · have hr : rightOf N M = 2 := by unfold rightOf; rw [if_pos hb1]
          rw [hr]
          go_wp2_with fail
          refine (refRight_any s1 s2 _).mono ?_
          rintro e w' ⟨rfl, rfl⟩
          rw [Z1.out, Z2.out, hr]
          go_wp2_with fail
          go_ret
          exact ⟨rfl, hB⟩
        · by_cases hb2 : 4096 < M
          · have hr : rightOf N M = 3 := by unfold rightOf; rw [if_neg hb1, if_pos hb2]
            rw [hr]
            go_wp2_with fail
            refine (refRight_any s1 s2 _).mono ?_
            rintro e w' ⟨rfl, rfl⟩
            rw [Z1.out, Z2.out, hr]
            go_wp2_with fail
            go_ret
            exact ⟨rfl, hB⟩
          · have hr : rightOf N M = 0 := by unfold rightOf; rw [if_neg hb1, if_neg hb2]
            rw [hr]
            go_wp2_with fail
            refine (refRight_any s1 s2 _).mono ?_
            rintro e w' ⟨rfl, rfl⟩
            rw [Z1.out, Z2.out, hr]
            go_wp2_with fail
            go_ret
            exact ⟨rfl, hB⟩
theorem walk (n m b : Int) (w : World) (w0 : (Lit.int .u16 n).wf = true) (w1 : (Lit.int .u16 m).wf = true) (w2 : (Lit.int .u8 b).wf = true) :
    Calls Try.prog 5 #[.int .u16 n, .int .u16 m, .int .u8 b] w fun e w' => e = .returned (.bool true) ∧ Below w.heap.size w w' := by
  have hb0 := bounds_u16 w0
  have hb1 := bounds_u16 w1
  obtain ⟨n', rfl⟩ := Int.eq_ofNat_of_zero_le hb0.1
  obtain ⟨m', rfl⟩ := Int.eq_ofNat_of_zero_le hb1.1
  exact walk' n' m' b w (by omega) (by omega)

/-! ### THE ROW's STEP -/
set_option maxRecDepth 100000 in
theorem lifted (os : Os) (started : os.Started) (H : Type) (enc : TypeId × Value → H) :
    ReturnsInHanded {} Try.checked os 5 .any (Rows.pairRightsSpec.pre6 enc Try.prog Try.f5 Rows.pairRightsRow.domain false) (Rows.pairRightsSpec.post enc Try.prog Try.f5 false true false false) := by
  refine returnsInHanded_of_change (C := Try.checked) own started (by kernel_rfl) Try.func5
    (ChangeSpec.witness6 (enc := enc) (C := Try.checked) false ⟨#[], #[.int .u16 0, .int .u16 0, .int .u8 0], []⟩ 8 (by kernel_rfl) (by kernel_rfl) (by kernel_rfl) (by kernel_rfl)) ?_
  intro W base args ds gs before hval0 hW hcnd _
  have hval : ∀ (j : Nat) t v, Try.f5.params[j]? = some t → args[j]? = some v → Value.okWide Try.prog W .any base t v := hval0
  have hW' := hW
  obtain ⟨p, q, hA0, hV, rfl, hfz, hnd⟩ := hW
  have hA : DataW.TrodAll enc Try.prog W 0 (fun _ => true) true Try.f5.params.toList args.toList ds p := hA0
  rw [Try.params5] at hA hval
  obtain ⟨v0, vs0, d0, ds0, p0, q0, hargs, rfl, rfl, h0, r0⟩ := trodAll_cons hA
  obtain ⟨v1, vs1, d1, ds1, p1, q1, rfl, rfl, rfl, h1, r1⟩ := trodAll_cons r0
  obtain ⟨v2, vs2, d2, ds2, p2, q2, rfl, rfl, rfl, h2, r2⟩ := trodAll_cons r1
  obtain ⟨rfl, rfl, rfl⟩ := trodAll_nil r2
  obtain rfl : args = #[v0, v1, v2] := by cases args; simp_all
  obtain ⟨rfl, rfl⟩ := trodVars_none hV
  have k0 := h0
  have lt0 : ∀ x ∈ p0, x.block < W.heap.size := by obtain ⟨m, hm⟩ := k0; exact DataW.trod_lt m _ _ _ hm
  obtain ⟨a0, rfl, rfl, rfl, w0⟩ := open_int Try.underlying43 (hval 0 43 v0 rfl rfl) h0
  have k1 := h1
  have lt1 : ∀ x ∈ p1, x.block < W.heap.size := by obtain ⟨m, hm⟩ := k1; exact DataW.trod_lt m _ _ _ hm
  obtain ⟨a1, rfl, rfl, rfl, w1⟩ := open_int Try.underlying43 (hval 1 43 v1 rfl rfl) h1
  have k2 := h2
  have lt2 : ∀ x ∈ p2, x.block < W.heap.size := by obtain ⟨m, hm⟩ := k2; exact DataW.trod_lt m _ _ _ hm
  obtain ⟨a2, rfl, rfl, rfl, w2⟩ := open_int Try.underlying5 (hval 2 5 v2 rfl rfl) h2
  clear hA0 hval0
  refine (walk a0 a1 a2 W w0 w1 w2).mono fun e W' ⟨he, bel⟩ => ?_
  subst he
  exact ⟨_, rfl, _, _, _, [], _, [], hW', trodAll_mk1 (shut_bool Try.underlying4 _), (trodAll_cons_mk (Below.trod laidOut (by kernel_rfl) (of_decide_eq_true (by kernel_rfl)) k0 bel lt0) (trodAll_cons_mk (Below.trod laidOut (by kernel_rfl) (of_decide_eq_true (by kernel_rfl)) k1 bel lt1) (trodAll_cons_mk (Below.trod laidOut (by kernel_rfl) (of_decide_eq_true (by kernel_rfl)) k2 bel lt2) trodAll_mk0))), rfl, bel.frame _, fun h => by cases h⟩

theorem over : Rows.pairRightsRow.holds Try.pinned (OpenSpec.ofChange Rows.pairRightsSpec) :=
  OpenClaim.holds_of_wide 5 Try.f5 rfl rfl rfl rfl rfl rfl rfl ⟨rfl, rfl, rfl, rfl, rfl⟩ rfl rfl rfl rfl rfl (by kernel_rfl) Try.func5 (by kernel_rfl)
    (of_decide_eq_true (by kernel_rfl)) (by unfold Func.isWrapper; first | (rw [if_pos (by decide +kernel)]; kernel_rfl) | (rw [if_neg (by decide +kernel)]; exact ⟨rfl, rfl⟩))
    (fun os started H enc _ => lifted os started H enc)

theorem proved : Rows.PairRightsSaid := over
#print axioms proved
end Go.Proofs.Ytfipifjlmepooaa.pairRights
