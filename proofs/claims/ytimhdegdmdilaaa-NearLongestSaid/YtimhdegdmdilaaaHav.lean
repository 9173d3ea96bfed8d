/- The law is awake. -/
import Derived.Test.YtimhdegdmdilaaaHau
import Derived.BigQuiet
import Derived.Deep.RegionHeld3
namespace Go.Proofs.Ytimhdegdmdilaaa
open Go.RowKit Go.Lib
set_option linter.unusedVariables false
set_option linter.unnecessarySimpa false
set_option linter.unusedSimpArgs false
set_option linter.unnecessarySimpa false
set_option maxRecDepth 100000
def awL : List Pr := [(⟨#[97]⟩, ⟨#[]⟩), (⟨#[97, 98]⟩, ⟨#[]⟩), (⟨#[98]⟩, ⟨#[]⟩)]
theorem awL_tree : gather [] (pats awL (min 3 40)) = awL := by kernel_rfl
theorem awL_floor : floorL awL ⟨#[97, 97]⟩ = some (⟨#[97]⟩, ⟨#[]⟩) := by kernel_rfl
theorem awL_ceil : ceilL awL ⟨#[97, 97]⟩ = some (⟨#[97, 98]⟩, ⟨#[]⟩) := by kernel_rfl
theorem awL_flat : flat awL = [.string ⟨#[97]⟩, .string ⟨#[]⟩, .string ⟨#[97, 98]⟩, .string ⟨#[]⟩, .string ⟨#[98]⟩, .string ⟨#[]⟩] := by kernel_rfl
set_option maxHeartbeats 4000000 in
theorem awake12_any (w : World) : Calls Try.prog 16 #[] w fun e w' => e = .returned (.bool true) ∧ Below w.heap.size w w' := by
  have hB := (Below.refl _ w).alloc (Nat.le_refl _) (.cells #[.string ⟨#[97]⟩, .string ⟨#[]⟩, .string ⟨#[97, 98]⟩, .string ⟨#[]⟩, .string ⟨#[98]⟩, .string ⟨#[]⟩] 29)
  have bA := Blk.new w 29 #[.string ⟨#[97]⟩, .string ⟨#[]⟩, .string ⟨#[97, 98]⟩, .string ⟨#[]⟩, .string ⟨#[98]⟩, .string ⟨#[]⟩]
  go_enter Try.func16, Try.ntmps16
  go_wp2_with fail
  generalize w.alloc (.cells #[.string ⟨#[97]⟩, .string ⟨#[]⟩, .string ⟨#[97, 98]⟩, .string ⟨#[]⟩, .string ⟨#[98]⟩, .string ⟨#[]⟩] 29) = W0 at *
  obtain ⟨N, hN⟩ : ∃ N, N = w.heap.size := ⟨_, rfl⟩
  rw [← hN] at bA ⊢
  clear hN
  have hA : ArgP W0 (some ⟨N, 0, none⟩) 3 3 awL := .inr ⟨_, rfl, rfl, by decide, by decide, fun j u hj => by
    rw [awL_flat] at hj
    have := bA.cell j
    rw [show (Addr.add ⟨N, 0, none⟩ j) = ⟨N, j, none⟩ by simp [Addr.add]; exact fun h => h.symm, this]
    exact (List.getElem?_toArray ..).trans hj⟩
  refine (lawtree_any _ _ _ _ W0 hA (by decide)).mono ?_
  rintro e W1 ⟨b, A, c, X, rfl, hX, hlX, hT, hO, hB1⟩
  rw [awL_tree] at hX
  subst hX
  have hB := hB.trans (hB1.mono hB.size)
  have kf := floor_list hT ⟨#[97, 97]⟩ (by decide)
  rw [awL_floor] at kf
  unfold at0 entP at kf
  dsimp only at kf
  clear hO hB1 bA hA hlX
  unfold at0
  go_wp2_with fail
  refine kf.mono ?_
  rintro e W2 ⟨rfl, hB2⟩
  have hT := hT.below hB2
  have hB := hB.trans (hB2.mono hB.size)
  have hBl := (Below.refl _ W2).alloc (Nat.le_refl _) (.cells #[.string ⟨#[97]⟩, .string ⟨#[]⟩] 29)
  have bP := Blk.new W2 29 #[.string ⟨#[97]⟩, .string ⟨#[]⟩]
  have hT := hT.below hBl
  have hB := hB.trans (hBl.mono hB.size)
  clear kf hB2 hBl
  go_upto_region 3 with (fail)
  generalize W2.alloc (.cells #[.string ⟨#[97]⟩, .string ⟨#[]⟩] 29) = W3 at *
  generalize W2.heap.size = N3 at *
  have kc := ceil_list hT ⟨#[97, 97]⟩ (by decide)
  rw [awL_ceil] at kc
  unfold at0 entP at kc
  dsimp only at kc
  go_wp2_with fail
  refine kc.mono ?_
  rintro e W4 ⟨rfl, hB4⟩
  have bP := bP.below hB4
  have hB := hB.trans (hB4.mono hB.size)
  have hBl := (Below.refl _ W4).alloc (Nat.le_refl _) (.cells #[.string ⟨#[97, 98]⟩, .string ⟨#[]⟩] 29)
  have bQ := Blk.new W4 29 #[.string ⟨#[97, 98]⟩, .string ⟨#[]⟩]
  have bP := bP.below hBl
  have hB := hB.trans (hBl.mono hB.size)
  clear kc hT hB4 hBl
  go_upto_region 4 with (fail)
  generalize W4.alloc (.cells #[.string ⟨#[97, 98]⟩, .string ⟨#[]⟩] 29) = W5 at *
  generalize W4.heap.size = N5 at *
  have p0 := bP.cell 0
  have q0 := bQ.cell 0
  clear bP bQ
  go_wp2_with fail
  go_ret
  exact ⟨rfl, hB⟩
end Go.Proofs.Ytimhdegdmdilaaa
/- Neighbours in a rising list. -/
namespace Go.Proofs.Ytimhdegdmdilaaa
open Go.RowKit Go.Lib
set_option linter.unusedVariables false
set_option linter.unnecessarySimpa false
set_option linter.unusedSimpArgs false
set_option linter.unnecessarySimpa false
set_option maxRecDepth 100000
/-- the code from a region on -/
def startsAt (k : Nat) : Code → Bool
  | .region i _ _ => i == k
  | .seq a _ => startsAt k a
  | _ => false
def fromRegion (k : Nat) : Code → Option Code
  | .seq a b => if startsAt k a then some (.seq a b) else fromRegion k b
  | _ => none
theorem ArgP.len_leR {w : World} {a : Option Addr} {len cap : Nat} {ps : List Pr} (h : ArgP w a len cap ps) : len ≤ maxLen := by
  rcases h with ⟨_, h, _⟩ | ⟨x, rfl, hl, hm, hz, hcell⟩
  · rw [h]; exact Nat.zero_le _
  · omega
def eK (o : Option Pr) : ByteArray := (o.map (·.1)).getD ⟨#[]⟩
def eV (o : Option Pr) : ByteArray := (o.map (·.2)).getD ⟨#[]⟩
theorem entP_s (o : Option Pr) : entP o = .tuple #[.agg #[.string (eK o), .string (eV o)], .bool o.isSome] := by cases o <;> rfl
section
variable {X : List Pr}
theorem rises_cb (hr : RisesL X) {i j : Nat} (hij : i < j) (hj : j < X.length) : compareBytes (X[i]'(by omega)).1.data.toList X[j].1.data.toList < 0 :=
  List.pairwise_iff_getElem.1 hr i j (by omega) hj hij
theorem pat_nth {j : Nat} (hj : j < X.length) : pat X j = X[j] := by
  have := pat_get (xs := X) (p := j) hj
  rw [List.getElem?_eq_getElem hj] at this
  exact (Option.some.inj this).symm
theorem gt_index (hr : RisesL X) {i j : Nat} (hi : i < X.length) (hj : j < X.length) : gtP X[j].1 X[i] = decide (j < i) := by
  unfold gtP
  rcases Nat.lt_trichotomy i j with h | h | h
  · have := rises_cb hr h hj
    rw [decide_eq_false (by omega), decide_eq_false (by omega)]
  · subst h
    rw [decide_eq_false (by rw [(cb_zero _ _).2 rfl]; omega), decide_eq_false (by omega)]
  · have := rises_cb hr h hi
    rw [cb_neg] at this
    rw [decide_eq_true (by omega), decide_eq_true h]
theorem lt_index (hr : RisesL X) {i j : Nat} (hi : i < X.length) (hj : j < X.length) : ltP X[j].1 X[i] = decide (i < j) := by
  unfold ltP
  rcases Nat.lt_trichotomy i j with h | h | h
  · have := rises_cb hr h hj
    rw [decide_eq_true (by omega), decide_eq_true h]
  · subst h
    rw [decide_eq_false (by rw [(cb_zero _ _).2 rfl]; omega), decide_eq_false (by omega)]
  · have := rises_cb hr h hi
    rw [cb_neg] at this
    rw [decide_eq_false (by omega), decide_eq_false (by omega)]
theorem filter_gt0 {k : ByteArray} {j : Nat} (h : ∀ (i : Nat) (hi : i < X.length), gtP k X[i] = decide (j < i)) : X.filter (gtP k) = X.drop (j + 1) := by
  conv => lhs; rw [← List.take_append_drop (j + 1) X]
  rw [List.filter_append, List.filter_eq_nil_iff.2, List.filter_eq_self.2, List.nil_append]
  · intro p hp
    obtain ⟨i, hi, rfl⟩ := List.mem_iff_getElem.1 hp
    rw [List.getElem_drop]
    rw [List.length_drop] at hi
    rw [h _ (by omega)]
    simp; omega
  · intro p hp
    obtain ⟨i, hi, rfl⟩ := List.mem_iff_getElem.1 hp
    rw [List.getElem_take]
    rw [List.length_take] at hi
    rw [h _ (by omega)]
    simp; omega
theorem filter_lt0 {k : ByteArray} {j : Nat} (h : ∀ (i : Nat) (hi : i < X.length), ltP k X[i] = decide (i < j)) : X.filter (ltP k) = X.take j := by
  conv => lhs; rw [← List.take_append_drop j X]
  rw [List.filter_append, List.filter_eq_self.2, List.filter_eq_nil_iff.2, List.append_nil]
  · intro p hp
    obtain ⟨i, hi, rfl⟩ := List.mem_iff_getElem.1 hp
    rw [List.getElem_drop]
    rw [List.length_drop] at hi
    rw [h _ (by omega)]
    simp
  · intro p hp
    obtain ⟨i, hi, rfl⟩ := List.mem_iff_getElem.1 hp
    rw [List.getElem_take]
    rw [List.length_take] at hi
    rw [h _ (by omega)]
    simp; omega
theorem filter_gt (hr : RisesL X) {j : Nat} (hj : j < X.length) : X.filter (gtP X[j].1) = X.drop (j + 1) := filter_gt0 fun i hi => gt_index hr hi hj
theorem filter_lt (hr : RisesL X) {j : Nat} (hj : j < X.length) : X.filter (ltP X[j].1) = X.take j := filter_lt0 fun i hi => lt_index hr hi hj
theorem first_gt (hr : RisesL X) {j : Nat} (hj : j < X.length) : firstGt X (pat X j).1 = X[j + 1]? := by
  unfold firstGt
  rw [pat_nth hj, filter_gt hr hj, List.head?_drop]
/-- the k-th pair, counted from 1 -/
def kth (X : List Pr) (k : Nat) : Option Pr := (X.take k).getLast?
theorem last_lt (hr : RisesL X) {j : Nat} (hj : j < X.length) : lastLt X (pat X j).1 = kth X j := by
  unfold lastLt kth
  rw [pat_nth hj, filter_lt hr hj]
theorem kth_succ {j : Nat} (hj : j < X.length) : kth X (j + 1) = some (pat X j) := by
  unfold kth
  rw [List.take_succ_eq_append_getElem hj, List.getLast?_concat, pat_nth hj]
theorem kth_all : kth X X.length = X.getLast? := by unfold kth; rw [List.take_length]
end
end Go.Proofs.Ytimhdegdmdilaaa
/- NearSteps: the way down. -/
namespace Go.Proofs.Ytimhdegdmdilaaa.nearSteps
open Go.RowKit Go.Lib
set_option linter.unusedVariables false
set_option linter.unnecessarySimpa false
set_option linter.unusedSimpArgs false
set_option linter.unnecessarySimpa false
set_option maxRecDepth 100000
noncomputable def st12 : Code := (Try.f5.body.bind (fromRegion 12)).getD .skip
set_option maxHeartbeats 8000000 in
theorem st12_any (post : Ending → World → Prop) (w0 w : World) (b : Nat) (X : List Pr) (A : Option Addr) (c : Nat) (hB : Below w0.heap.size w0 w) (hT : PW w b X) (hO : OwnR w0.heap.size w (.slice A X.length c) X) (hlX : X.length ≤ 40) (hpost : ∀ w', Below w0.heap.size w0 w' → post (.returned (.bool true)) w') (x0 x1 x2 x5 x7 x8 x9 x10 x11 x12 x13 x14 x15 x16 x17 x18 x19 x20 x21 x22 x23 x24 x25 x26 x27 x28 x29 x30 x31 x32 x33 x34 x35 x36 x37 x38 x39 x40 x41 x42 x43 x44 x45 x46 x47 x48 x49 x50 x51 x52 x53 x54 x55 x56 x57 x58 x59 x60 x61 x62 x63 x64 x65 x66 x67 x68 x69 x70 x71 x72 x73 x74 x75 x76 : Value) :
    Code.wp Try.prog st12 (bodyPost Try.prog Try.f5 post) ⟨#[x0, x1, x2, .pointer (some ⟨b, 0, none⟩), .slice A X.length c, x5, .bool false, x7, x8, x9, x10, x11, x12, x13, x14, x15, x16, x17, x18, x19, x20, x21, x22, x23, x24, x25, x26, x27, x28, x29, x30, x31, x32, x33, x34, x35, x36, x37, x38, x39, x40, x41, x42, x43, x44, x45, x46, x47, x48, x49, x50, x51, x52, x53, x54, x55, x56, x57, x58, x59, x60, x61, x62, x63, x64, x65, x66, x67, x68, x69, x70, x71, x72, x73, x74, x75, x76], []⟩ w := by
  have HR := Lib.hid hT.rises
  have HKS := Lib.hid hT.keys
  have km := max_list hT
  rw [entP_s, ← kth_all] at km
  unfold at0 at km
  have HP := Lib.hid hpost
  clear hpost
  have HK0 := Lib.hid (fun k (hk : k < X.length) => kth_succ (X := X) hk)
  obtain ⟨NX, hNX⟩ : ∃ NX, NX = X.length := ⟨_, rfl⟩
  have HNX := Lib.hid hNX
  rw [← hNX] at km hlX hO ⊢
  clear hNX
  simp only []
  conv => arg 2; whnf
  go_wp2_with fail
  refine km.mono ?_
  rintro e w1 ⟨rfl, hB1⟩
  have hBl := (Below.refl _ w1).alloc (Nat.le_refl _) (.cells #[.string (eK (kth X NX)), .string (eV (kth X NX))] 29)
  have bP := Blk.new w1 29 #[.string (eK (kth X NX)), .string (eV (kth X NX))]
  have hT := (hT.below hB1).below hBl
  have hO := (hO.below' hB1).below' hBl
  have hN9 : w0.heap.size ≤ w1.heap.size := Nat.le_trans hB.size hB1.size
  have hB := (hB.trans (hB1.mono hB.size)).trans (hBl.mono hN9)
  clear km hB1 hBl
  go_upto_region 15 with (fail)
  generalize w1.alloc (.cells #[.string (eK (kth X NX)), .string (eV (kth X NX))] 29) = W2 at *
  generalize w1.heap.size = N9 at *
  have hwr : IntKind.i64.wrap ((NX : Int) - 1) = (NX : Int) - 1 := IntWalk.i64_in _ (by omega)
  go_wp2_with fail
  go_loopw [10, 11] (fun vh vi wr => ∃ k : Nat, k ≤ NX ∧ vi = .int .i64 ((k : Int) - 1) ∧ vh = .bool (kth X k).isSome ∧ Blk wr N9 29 #[.string (eK (kth X k)), .string (eV (kth X k))] ∧ PW wr b X ∧ OwnR w0.heap.size wr (.slice A NX c) X ∧ Below w0.heap.size w0 wr) (fun vh vi wr => (RowKit.intOf vi + 1).toNat)
  case atStart => exact ⟨NX, Nat.le_refl _, by simp [hwr], rfl, bP, hT, hO, hB⟩
  case round =>
    clear bP hT hO hB hwr
    obtain ⟨k, hk, rfl, rfl, bP, hT, hO, hB⟩ := hrel
    cases k with
    | zero =>
      have e0 : kth X 0 = none := by simp [kth]
      have G : ¬ ((0 : Int) ≤ ((0 : Nat) : Int) - 1) := by omega
      rw [e0]
      have HB := Lib.hid hB
      clear bP hT hO hB
      simp only [Option.isSome_none]
      go_wp2_with fail
      exact HP.out _ HB.out
    | succ j =>
      have hjX : j < X.length := by rw [← HNX.out]; omega
      obtain ⟨A', c', e', hR⟩ := hO.rd
      simp only [Value.slice.injEq] at e'
      obtain ⟨rfl, -, rfl⟩ := e'
      obtain ⟨g, off, hA, y0, y1⟩ := hR.at j hjX
      have hq := HK0.out j hjX
      have hlt := last_lt HR.out hjX
      have hsz := HKS.out _ (List.mem_of_getElem? (pat_get hjX))
      have kb := fun wr (hT : PW wr b X) => below_list hT (pat X j).1 (by omega)
      rw [hlt] at kb
      rw [hq] at bP ⊢
      generalize pat X j = q at *
      subst hA
      have hj1 : ((j + 1 : Nat) : Int) - 1 = (j : Int) := by omega
      rw [hj1]
      have G : (0 : Int) ≤ (j : Int) := by omega
      have G1 : (j : Int) < (NX : Int) := by omega
      have G2 : j < NX := by omega
      have hwr : IntKind.i64.wrap ((j : Int) - 1) = (j : Int) - 1 := IntWalk.i64_in _ (by omega)
      have p0 : wr.cell? ⟨N9, 0, none⟩ = some (.string q.1) := bP.cell 0
      have p1 : wr.cell? ⟨N9, 1, none⟩ = some (.string q.2) := bP.cell 1
      have hS0 : (fun w' : World => w'.cell? ⟨N9, 0, none⟩ = some (.string q.1) ∧ w'.cell? ⟨N9, 1, none⟩ = some (.string q.2) ∧ w'.cell? ⟨g, off + j * 2, none⟩ = some (.string q.1) ∧ w'.cell? ⟨g, off + j * 2 + 1, none⟩ = some (.string q.2)) wr.drew := ⟨p0, p1, y0, y1⟩
      clear hlt hq y0 y1 p0 p1 hR
      simp only [Option.isSome_some]
      go_upto_region 18 with (fail)
      refine wp_region_held_drew (S := (fun w' : World => w'.cell? ⟨N9, 0, none⟩ = some (.string q.1) ∧ w'.cell? ⟨N9, 1, none⟩ = some (.string q.2) ∧ w'.cell? ⟨g, off + j * 2, none⟩ = some (.string q.1) ∧ w'.cell? ⟨g, off + j * 2 + 1, none⟩ = some (.string q.2))) (by kernel_rfl) hS0 ?_
      intro hS
      refine wpAnyH_take (i := 0) (oi := { dst := some 58, op := Go.Op.move (Go.Operand.tmp 10), type := 4, pos := "law.go:122", after := #[], guard := none }) (v := .bool true) rfl (by kernel_rfl) (by kernel_rfl) (by kernel_rfl) (fun _ _ _ h => h) (Or.inl ⟨by rfl, fun w hSw => ?_⟩) hS ?_
      · go_split_ands
        go_simp
      try simp only [Act.put, List.setIfInBounds_toArray, List.set_cons_zero, List.set_cons_succ]
      refine wpAnyH_take (i := 1) (oi := { dst := some 59, op := Go.Op.unOp Go.UnOp.not 4 (Go.Operand.tmp 58), type := 4, pos := "law.go:122", after := #[{ on := 0, ground := Go.Ground.data }], guard := none }) (v := .bool false) rfl (by kernel_rfl) (by kernel_rfl) (by kernel_rfl) (fun _ _ _ h => h) (Or.inl ⟨by rfl, fun w hSw => ?_⟩) hS ?_
      · go_split_ands
        go_simp
      try simp only [Act.put, List.setIfInBounds_toArray, List.set_cons_zero, List.set_cons_succ]
      refine wpAnyH_take (i := 2) (oi := { dst := some 60, op := Go.Op.move (Go.Operand.tmp 59), type := 4, pos := "law.go:122", after := #[{ on := 1, ground := Go.Ground.data }], guard := none }) (v := .bool false) rfl (by kernel_rfl) (by kernel_rfl) (by kernel_rfl) (fun _ _ _ h => h) (Or.inl ⟨by rfl, fun w hSw => ?_⟩) hS ?_
      · go_split_ands
        go_simp
      try simp only [Act.put, List.setIfInBounds_toArray, List.set_cons_zero, List.set_cons_succ]
      refine wpAnyH_take (i := 3) (oi := { dst := some 61, op := Go.Op.load 29 (Go.Operand.tmp 9), type := 29, pos := "law.go:122", after := #[{ on := 2, ground := Go.Ground.guard }], guard := some (2, false) }) (v := .agg #[.string q.1, .string q.2]) rfl (by kernel_rfl) (by kernel_rfl) (by kernel_rfl) (fun _ _ _ h => h) (Or.inl ⟨by rfl, fun w hSw => ?_⟩) hS ?_
      · go_split_ands
        go_simp
      try simp only [Act.put, List.setIfInBounds_toArray, List.set_cons_zero, List.set_cons_succ]
      refine wpAnyH_take (i := 4) (oi := { dst := some 62, op := Go.Op.move (Go.Operand.tmp 4), type := 25, pos := "law.go:122", after := #[{ on := 2, ground := Go.Ground.guard }], guard := some (2, false) }) (v := .slice (some ⟨g, off, none⟩) NX c) rfl (by kernel_rfl) (by kernel_rfl) (by kernel_rfl) (fun _ _ _ h => h) (Or.inl ⟨by rfl, fun w hSw => ?_⟩) hS ?_
      · go_split_ands
        go_simp
      try simp only [Act.put, List.setIfInBounds_toArray, List.set_cons_zero, List.set_cons_succ]
      refine wpAnyH_take (i := 5) (oi := { dst := some 63, op := Go.Op.move (Go.Operand.tmp 11), type := 3, pos := "law.go:122", after := #[{ on := 2, ground := Go.Ground.guard }], guard := some (2, false) }) (v := .int .i64 j) rfl (by kernel_rfl) (by kernel_rfl) (by kernel_rfl) (fun _ _ _ h => h) (Or.inl ⟨by rfl, fun w hSw => ?_⟩) hS ?_
      · go_split_ands
        go_simp
      try simp only [Act.put, List.setIfInBounds_toArray, List.set_cons_zero, List.set_cons_succ]
      refine wpAnyH_take (i := 6) (oi := { dst := some 64, op := Go.Op.indexAddr 25 (Go.Operand.tmp 62) (Go.Operand.tmp 63), type := 0, pos := "law.go:122", after := #[{ on := 4, ground := Go.Ground.data }, { on := 5, ground := Go.Ground.data }, { on := 2, ground := Go.Ground.guard }], guard := some (2, false) }) (v := .pointer (some ⟨g, off + j * 2, none⟩)) rfl (by kernel_rfl) (by kernel_rfl) (by kernel_rfl) (fun _ _ _ h => h) (Or.inl ⟨by rfl, fun w hSw => ?_⟩) hS ?_
      · go_split_ands
        go_simp
      try simp only [Act.put, List.setIfInBounds_toArray, List.set_cons_zero, List.set_cons_succ]
      refine wpAnyH_take (i := 7) (oi := { dst := some 65, op := Go.Op.load 33 (Go.Operand.tmp 64), type := 33, pos := "law.go:122", after := #[{ on := 6, ground := Go.Ground.data }, { on := 2, ground := Go.Ground.guard }], guard := some (2, false) }) (v := .agg #[.string q.1, .string q.2]) rfl (by kernel_rfl) (by kernel_rfl) (by kernel_rfl) (fun _ _ _ h => h) (Or.inl ⟨by rfl, fun w hSw => ?_⟩) hS ?_
      · go_split_ands
        go_simp
      try simp only [Act.put, List.setIfInBounds_toArray, List.set_cons_zero, List.set_cons_succ]
      refine wpAnyH_take (i := 8) (oi := { dst := some 66, op := Go.Op.binOp Go.BinOp.neq 33 (Go.Operand.tmp 61) (Go.Operand.tmp 65) 33, type := 4, pos := "law.go:122", after := #[{ on := 3, ground := Go.Ground.data }, { on := 7, ground := Go.Ground.data }, { on := 2, ground := Go.Ground.guard }], guard := some (2, false) }) (v := .bool false) rfl (by kernel_rfl) (by kernel_rfl) (by kernel_rfl) (fun _ _ _ h => h) (Or.inl ⟨by rfl, fun w hSw => ?_⟩) hS ?_
      · go_split_ands
        go_simp
      try simp only [Act.put, List.setIfInBounds_toArray, List.set_cons_zero, List.set_cons_succ]
      refine wpAnyH_take (i := 9) (oi := { dst := some 67, op := Go.Op.pick (Go.Operand.tmp 60) (Go.Operand.const (Go.Value.bool true)) (Go.Operand.tmp 66), type := 4, pos := "law.go:122", after := #[{ on := 2, ground := Go.Ground.data }, { on := 8, ground := Go.Ground.data }], guard := none }) (v := .bool false) rfl (by kernel_rfl) (by kernel_rfl) (by kernel_rfl) (fun _ _ _ h => h) (Or.inl ⟨by rfl, fun w hSw => ?_⟩) hS ?_
      · go_split_ands
        go_simp
      try simp only [Act.put, List.setIfInBounds_toArray, List.set_cons_zero, List.set_cons_succ]
      refine wpAnyH_done (by kernel_rfl) ?_ _

      have hdr := (Below.refl wr.heap.size wr).drew
      have bP := bP.below hdr
      have hT := hT.below hdr
      have hO := hO.below' hdr
      have hB := hB.trans (hdr.mono hB.size)
      clear hdr hS0 hS
      generalize wr.drew = W at *
      have p0 : W.cell? ⟨N9, 0, none⟩ = some (.string q.1) := bP.cell 0
      have kb := kb W hT
      obtain ⟨o, ho⟩ : ∃ o, o = kth X j := ⟨_, rfl⟩
      rw [← ho] at kb
      have HO := Lib.hid ho
      clear ho
      rw [entP_s] at kb
      unfold at0 at kb
      go_wp2_with fail
      refine kb.mono ?_
      rintro e W3 ⟨rfl, hB3⟩
      have bP := bP.below hB3
      have hT := hT.below hB3
      have hO := hO.below' hB3
      have hB := hB.trans (hB3.mono hB.size)
      clear kb hB3 p0
      have p0 := bP.cell 0
      have p1 := bP.cell 1
      have f0 := bP.frozen 0
      have f1 := bP.frozen 1
      have hk2 := Keep.two W3 N9 0 1 (.string (eK o)) (.string (eV o))
      have HT := Lib.hid (hT.apart29 bP hk2)
      have HRd := Lib.hid (hO.apart29 bP hk2)
      have HBP := Lib.hid (bP.set2 (.string (eK o)) (.string (eV o)))
      have HB := Lib.hid ((hB.setCell (p := ⟨N9, 0, none⟩) hN9 (.string (eK o))).setCell (p := ⟨N9, 1, none⟩) hN9 (.string (eV o)))
      clear hT hO hB bP hk2
      go_wp2_with fail
      exact ⟨⟨j, by omega, by go_num, by rw [← HO.out], by rw [← HO.out]; exact HBP.out, HT.out, HRd.out, HB.out⟩, by simp [RowKit.intOf]⟩
end Go.Proofs.Ytimhdegdmdilaaa.nearSteps
