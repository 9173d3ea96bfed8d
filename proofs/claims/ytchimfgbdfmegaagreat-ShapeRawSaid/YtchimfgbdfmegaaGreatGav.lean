/- What a change in one place does to the sizes. -/
import Derived.Test.YtchimfgbdfmegaaGreatGau
import Derived.BigQuiet
import Derived.Deep.RegionHeld3
namespace Go.Proofs.YtchimfgbdfmegaaGreat
open Go.RowKit Go.Lib
set_option linter.unusedVariables false
set_option linter.unusedSimpArgs false
set_option maxRecDepth 100000
attribute [local irreducible] cnt
theorem flat_sum {α : Type} (f : Nat → Option α) (g : α → List Nat) : ∀ n, ((fm f n).flatMap g).length = ((List.range n).map fun c => ((f c).toList.flatMap g).length).sum
  | 0 => rfl
  | n + 1 => by rw [fm_succ, List.flatMap_append, List.length_append, flat_sum f g n, List.range_succ, List.map_append, List.sum_append]; simp
theorem sum_at {F F' : Nat → Nat} {c : Nat} : ∀ n, (∀ j, j ≠ c → F' j = F j) → ((List.range n).map F').sum ≤ ((List.range n).map F).sum + F' c
  | 0, h => by simp
  | n + 1, h => by
    have ih := sum_at (F := F) (F' := F') (c := c) n h
    rw [List.range_succ, List.map_append, List.map_append, List.sum_append, List.sum_append]
    by_cases e : n = c
    · subst e
      have : ((List.range n).map F').sum = ((List.range n).map F).sum := sum_congr n fun j hj => h j (by omega)
      simp only [List.map_cons, List.map_nil, List.sum_cons, List.sum_nil]
      omega
    · have := h n e
      simp only [List.map_cons, List.map_nil, List.sum_cons, List.sum_nil]
      omega
section
variable {P : Nat → Option Pr} {K : Nat → RT} {c : Nat} {x : Option Pr} {u : RT}
theorem setP_ne {j : Nat} (h : j ≠ c) : setP P c x j = P j := by unfold setP; rw [if_neg h]
theorem setK_ne {j : Nat} (h : j ≠ c) : setK K c u j = K j := by unfold setK; rw [if_neg h]
theorem setP_eq : setP P c x c = x := by unfold setP; rw [if_pos rfl]
theorem setK_eq : setK K c u c = u := by unfold setK; rw [if_pos rfl]
theorem enc_set (d : Nat) (hx : ∀ p, x = some p → p.1.size ≤ 40 ∧ p.2.size ≤ 40) : (encR (d + 1) (.inner (setP P c x) (setK K c u))).length ≤ (encR (d + 1) (.inner P K)).length + 84 + (encR d u).length := by
  have e1 : (pairsB (fm (setP P c x) 32)).length ≤ (pairsB (fm P 32)).length + 84 := by
    unfold pairsB
    rw [flat_sum, flat_sum]
    refine Nat.le_trans (sum_at (F := fun c => ((P c).toList.flatMap pairB).length) (c := c) 32 fun j hj => by simp only [setP_ne hj]) (Nat.add_le_add_left ?_ _)
    rw [setP_eq]
    cases x with
    | none => simp
    | some p =>
      have := hx p rfl
      simp [pairB_len]
      omega
  have e2 : ((kidsR (setK K c u)).flatMap (encR d)).length ≤ ((kidsR K).flatMap (encR d)).length + (encR d u).length := by
    unfold kidsR
    rw [flat_sum, flat_sum]
    refine Nat.le_trans (sum_at (F := fun c => (((K c).opt).toList.flatMap (encR d)).length) (c := c) 32 fun j hj => by simp only [setK_ne hj]) (Nat.add_le_add_left ?_ _)
    simp only [setK_eq]
    cases e : u.opt with
    | none => simp
    | some v =>
      obtain ⟨rfl, -⟩ := opt_self e
      simp
  simp only [encR, List.length_cons, List.length_append, fourB_len]
  omega
theorem all_set (d : Nat) : (allR (d + 1) (.inner (setP P c x) (setK K c u))).length ≤ (allR (d + 1) (.inner P K)).length + (x.toList.length + (allR d u).length) := by
  show ((List.range 32).flatMap _).length ≤ ((List.range 32).flatMap _).length + _
  rw [List.length_flatMap, List.length_flatMap]
  refine Nat.le_trans (sum_at (F := fun c => ((P c).toList ++ allR d (K c)).length) (c := c) 32 fun j hj => by simp only [setP_ne hj, setK_ne hj]) (Nat.add_le_add_left ?_ _)
  simp only [setP_eq, setK_eq, List.length_append]
  exact Nat.le_refl _
theorem all_set_mem (d : Nat) {q : Pr} (h : q ∈ allR (d + 1) (.inner (setP P c x) (setK K c u))) : q ∈ allR (d + 1) (.inner P K) ∨ x = some q ∨ q ∈ allR d u := by
  have h : q ∈ (List.range 32).flatMap _ := h
  rw [List.mem_flatMap] at h
  obtain ⟨j, hj, hq⟩ := h
  by_cases e : j = c
  · subst e
    rw [setP_eq, setK_eq, List.mem_append] at hq
    rcases hq with hq | hq
    · exact .inr (.inl (by simpa using hq))
    · exact .inr (.inr hq)
  · rw [setP_ne e, setK_ne e] at hq
    exact .inl (List.mem_flatMap.2 ⟨j, hj, hq⟩)
theorem good_set (h : GoodR (.inner P K)) (hx : x = none ∨ u.opt = none) (hu : GoodR u) : GoodR (.inner (setP P c x) (setK K c u)) := fun j hj => by
  by_cases e : j = c
  · subst e
    rw [setP_eq, setK_eq]
    exact ⟨hx, hu⟩
  · rw [setP_ne e, setK_ne e]
    exact h j hj
theorem small_set (h : SmallR (.inner P K)) (hx : ∀ p, x = some p → p.1.size ≤ 40 ∧ p.2.size ≤ 40) (hu : SmallR u) : SmallR (.inner (setP P c x) (setK K c u)) := by
  refine ⟨fun j p e => ?_, fun j hj => ?_⟩
  · by_cases e' : j = c
    · subst e'
      rw [setP_eq] at e
      have := hx p e
      omega
    · rw [setP_ne e'] at e
      exact h.1 j p e
  · by_cases e' : j = c
    · subst e'
      rw [setK_eq]; exact hu
    · rw [setK_ne e']; exact h.2 j hj
end
/-- what is known of a tree that the law has -/
structure Known (t : RT) (n m : Nat) : Prop where
  good : GoodR t
  small : SmallR t
  all : ∀ d, (allR d t).length ≤ n
  short : ∀ d, Short (allR d t)
  enc : ∀ d, (encR d t).length ≤ m
theorem Known.set {P : Nat → Option Pr} {K : Nat → RT} {c : Nat} {x : Option Pr} {u : RT} {n m n' m' : Nat} (h : Known (.inner P K) n m) (k : Known u n' m') (he : x = none ∨ u.opt = none) (hx : ∀ p, x = some p → p.1.size ≤ 40 ∧ p.2.size ≤ 40) : Known (.inner (setP P c x) (setK K c u)) (n + 1 + n') (m + 84 + m') where
  good := good_set h.good he k.good
  small := small_set h.small hx k.small
  all := fun d => by
    cases d with
    | zero =>
      have h1 := h.all 0
      show ((List.range 32).flatMap _).length ≤ _
      have h1 : ((List.range 32).flatMap fun c => (P c).toList).length ≤ n := h1
      rw [List.length_flatMap] at h1 ⊢
      have h2 := sum_at (F := fun c => ((P c).toList).length) (F' := fun j => (setP P c x j).toList.length) (c := c) 32 fun j hj => by simp only [setP_ne hj]
      simp only [setP_eq] at h2
      have h3 : x.toList.length ≤ 1 := by cases x <;> simp
      omega
    | succ d =>
      have h1 := h.all (d + 1)
      have h2 := all_set (P := P) (K := K) (c := c) (x := x) (u := u) d
      have h3 := k.all d
      have h4 : x.toList.length ≤ 1 := by cases x <;> simp
      omega
  short := fun d q hq => by
    cases d with
    | zero =>
      have hq : q ∈ (List.range 32).flatMap fun c' => (setP P c x c').toList := hq
      rw [List.mem_flatMap] at hq
      obtain ⟨j, hj, hq⟩ := hq
      by_cases e : j = c
      · subst e
        rw [setP_eq] at hq
        exact hx q (by simpa using hq)
      · rw [setP_ne e] at hq
        exact h.short 0 q (List.mem_flatMap.2 ⟨j, hj, hq⟩)
    | succ d =>
      rcases all_set_mem d hq with h1 | h1 | h1
      · exact h.short _ q h1
      · exact hx q h1
      · exact k.short _ q h1
  enc := fun d => by
    cases d with
    | zero => simp [encR]
    | succ d =>
      have h1 := h.enc (d + 1)
      have h2 := enc_set (P := P) (K := K) (c := c) (u := u) d hx
      have h3 := k.enc d
      omega
theorem Known.no : Known .no 0 0 := ⟨trivial, trivial, fun d => by cases d <;> simp [allR], fun d q hq => by cases d <;> simp [allR] at hq, fun d => by cases d <;> simp [encR]⟩
theorem all_empty (d : Nat) : allR d (.inner (fun _ => none) (fun _ => .no)) = [] := by
  cases d <;> simp [allR]
theorem enc_nothing (d : Nat) : (encR d (.inner (fun _ => none) (fun _ => .no))).length ≤ 9 := by
  cases d with
  | zero => simp [encR]
  | succ d =>
    have e1 : fm (fun _ => (none : Option Pr)) 32 = [] := fm_nothing
    have e2 : kidsR (fun _ => RT.no) = [] := fm_nothing
    simp only [encR, e1, e2, List.length_cons, List.length_append, fourB_len]
    simp [pairsB]
theorem Known.empty : Known (.inner (fun _ => none) (fun _ => .no)) 0 9 :=
  ⟨fun c hc => ⟨.inl rfl, trivial⟩, ⟨fun c p e => by simp at e, fun c hc => trivial⟩, fun d => by rw [all_empty]; simp, fun d q hq => by rw [all_empty] at hq; simp at hq, enc_nothing⟩
theorem enc_mono : ∀ (d : Nat) (t : RT), (encR d t).length ≤ (encR (d + 1) t).length
  | 0, t => by simp [encR]
  | d + 1, .no => by simp [encR]
  | d + 1, .bucket L => by simp [encR]
  | d + 1, .inner P K => by
    have e : ((kidsR K).flatMap (encR d)).length ≤ ((kidsR K).flatMap (encR (d + 1))).length := by
      unfold kidsR
      rw [flat_sum, flat_sum]
      refine sum_le 32 fun c hc => ?_
      cases e : (K c).opt with
      | none => simp
      | some v => simpa using enc_mono d v
    simp only [encR, List.length_cons, List.length_append, fourB_len] at e ⊢
    omega
theorem enc_le (t : RT) (d : Nat) : ∀ k, (encR d t).length ≤ (encR (d + k) t).length
  | 0 => Nat.le_refl _
  | k + 1 => Nat.le_trans (enc_le t d k) (enc_mono (d + k) t)
theorem all_tree_any (H : ByteArray → Nat) : ∀ (n l : Nat) (ps : List Pr) (d : Nat), (allR d (treeOf H n l ps)).length ≤ ps.length ∧ ∀ q ∈ allR d (treeOf H n l ps), q ∈ ps
  | 0, l, ps, d => by
    have e : allR d (treeOf H 0 l ps) = ps := by cases d <;> rfl
    rw [e]; exact ⟨Nat.le_refl _, fun q h => h⟩
  | n + 1, l, ps, 0 => by
    refine ⟨?_, fun q hq => ?_⟩
    · show ((List.range 32).flatMap fun c => (onep (sub H l c ps)).toList).length ≤ _
      rw [List.length_flatMap, ← sub_sum (H := H) (l := l) ps]
      refine sum_le 32 fun c hc => ?_
      match sub H l c ps with
      | [] => simp [onep]
      | [x] => simp [onep]
      | x :: y :: r => simp [onep]
    · have hq : q ∈ (List.range 32).flatMap fun c => (onep (sub H l c ps)).toList := hq
      rw [List.mem_flatMap] at hq
      obtain ⟨c, hc, hq⟩ := hq
      have e : onep (sub H l c ps) = some q := by simpa using hq
      rw [onep_some] at e
      exact (sub_mem.1 (by rw [e]; simp : q ∈ sub H l c ps)).1
  | n + 1, l, ps, d + 1 => by
    have key : ∀ c, ((onep (sub H l c ps)).toList ++ allR d (match many (sub H l c ps) with | none => RT.no | some qs => treeOf H n (l + 1) qs)).length ≤ (sub H l c ps).length ∧ ∀ q ∈ (onep (sub H l c ps)).toList ++ allR d (match many (sub H l c ps) with | none => RT.no | some qs => treeOf H n (l + 1) qs), q ∈ sub H l c ps := fun c => by
      match hs : sub H l c ps with
      | [] => cases d <;> simp [onep, many, allR]
      | [x] => cases d <;> simp [onep, many, allR]
      | x :: y :: r =>
        have e : many (x :: y :: r) = some (x :: y :: r) := many_some.2 ⟨rfl, by simp⟩
        simp only [e]
        have := all_tree_any H n (l + 1) (x :: y :: r) d
        simpa [onep] using this
    refine ⟨?_, fun q hq => ?_⟩
    · show ((List.range 32).flatMap _).length ≤ _
      rw [List.length_flatMap, ← sub_sum (H := H) (l := l) ps]
      exact sum_le 32 fun c hc => (key c).1
    · have hq : q ∈ (List.range 32).flatMap _ := hq
      rw [List.mem_flatMap] at hq
      obtain ⟨c, hc, hq⟩ := hq
      exact (sub_mem.1 ((key c).2 q hq)).1
theorem Known.tree (H : ByteArray → Nat) {ps : List Pr} (hr : RisesL ps) (hs : Short ps) (hn : ps.length ≤ 30) : Known (treeOf H 13 0 ps) 30 7000 where
  good := tree_good H 13 0 ps hr
  small := tree_small H 13 0 ps hs.mid (by omega)
  all := fun d => Nat.le_trans (all_tree_any H 13 0 ps d).1 hn
  short := fun d q hq => hs q ((all_tree_any H 13 0 ps d).2 q hq)
  enc := fun d => by
    have h1 := encB_len H 13 0 ps hs
    have h2 := enc_le (treeOf H 13 0 ps) d 14
    rw [encR_tree H 13 0 ps (d + 14) (by omega)] at h2
    have h3 : ps.length * (84 + 9 * 13) ≤ 30 * (84 + 9 * 13) := Nat.mul_le_mul_right _ hn
    omega
end Go.Proofs.YtchimfgbdfmegaaGreat
/- ShapeBends: what its last line says. -/
namespace Go.Proofs.YtchimfgbdfmegaaGreat.shapeBends
open Go.RowKit Go.Lib
set_option linter.unusedVariables false
set_option linter.unusedSimpArgs false
set_option maxRecDepth 100000
attribute [local irreducible] cnt
noncomputable def bend21 : Code := (Tryz.f5.body.bind (fromRegion 21)).getD .skip
set_option maxHeartbeats 16000000 in
theorem bend21_any (post : Ending → World → Prop) (k0 k1 m : Int) (w0 w : World) (h0 : U64 k0) (h1 : U64 k1) (N5 b T nb : Nat) (t : RT) (n mm : Nat) (hB : Below w0.heap.size w0 w) (hN : NdR nb w t b) (hF : RfN (fun _ => False) w t T) (hk : Known t n mm) (hn : n ≤ 700) (hm : mm ≤ 1000000)
    (hH : Blk w N5 26 #[.int .u64 k0, .int .u64 k1, .int .u64 m]) (hpost : ∀ w', Below w0.heap.size w0 w' → post (.returned (.bool true)) w') (x0 x1 x2 x3 x4 x6 x7 x8 x9 x10 x12 x14 x15 x16 x17 x18 x19 x20 x21 x22 x23 x24 x25 x26 x27 x28 x29 x30 x31 x32 x33 x34 x35 x36 x37 x38 x39 x40 x41 x42 x43 x44 x45 x46 x47 x48 x49 x50 x51 x52 x53 x54 x55 x56 x57 x58 x59 x60 x61 x62 x63 x64 x65 x66 x67 x68 x69 x70 x71 x72 x73 x74 x75 x76 x77 x78 x79 x80 x81 x82 x83 x84 x85 x86 x87 x88 x89 x90 x91 x92 x93 x94 x95 x96 x97 x98 x99 x100 x101 x102 x103 x104 x105 x106 x107 x108 x109 x110 x111 x112 x113 x114 x115 x116 x117 x118 x119 x120 x121 x122 x123 x124 x125 : Value) :
    Code.wp Tryz.prog bend21 (bodyPost Tryz.prog Tryz.f5 post) ⟨#[x0, x1, x2, x3, x4, .pointer (some ⟨N5, 0, none⟩), x6, x7, x8, x9, x10, .pointer (some ⟨b, 0, none⟩), x12, .pointer (some ⟨T, 0, none⟩), x14, x15, x16, x17, x18, x19, x20, x21, x22, x23, x24, x25, x26, x27, x28, x29, x30, x31, x32, x33, x34, x35, x36, x37, x38, x39, x40, x41, x42, x43, x44, x45, x46, x47, x48, x49, x50, x51, x52, x53, x54, x55, x56, x57, x58, x59, x60, x61, x62, x63, x64, x65, x66, x67, x68, x69, x70, x71, x72, x73, x74, x75, x76, x77, x78, x79, x80, x81, x82, x83, x84, x85, x86, x87, x88, x89, x90, x91, x92, x93, x94, x95, x96, x97, x98, x99, x100, x101, x102, x103, x104, x105, x106, x107, x108, x109, x110, x111, x112, x113, x114, x115, x116, x117, x118, x119, x120, x121, x122, x123, x124, x125], []⟩ w := by
  have kOf := fun w' (hn : NdR nb w' t b) => of_node nb t b w' hn hk.small.fair (by have := hk.enc 14; omega)
  have kEnc := fun w' (hf : RfN (fun _ => False) w' t T) => refOfR_any 14 0 t T w' rfl (by omega) (RfN.rf t _ T hf) hk.small.fair (by have := hk.enc 14; omega)
  have kEq := fun w' base base' v v' (ha : OwnB base w' v (encR 14 t)) (hb : OwnB base' w' v' (encR 14 t)) => refSameB_any base base' v v' _ _ w' ha hb (by have := hk.enc 14; omega)
  have kCan := fun w' (hn : NdR nb w' t b) => canon_any k0 k1 m h0 h1 nb t b w' hn hk.small
  have kRef := fun w' (hf : RfN (fun _ => False) w' t T) => refCanon_any k0 k1 m h0 h1 (fun _ => False) t T w' hf hk.good hk.small (hk.short 13) (Nat.le_trans (hk.all 13) hn) (by have := hk.enc 14; omega)
  simp only [decide_true] at kEq
  unfold hasherV at0 at kCan
  have hdr : Below w.heap.size w w.drew := (Below.refl _ w).drew
  have hS0 : (fun w' : World => w'.cell? ⟨N5, 0, none⟩ = some (.int .u64 k0) ∧ w'.cell? ⟨N5, 1, none⟩ = some (.int .u64 k1) ∧ w'.cell? ⟨N5, 2, none⟩ = some (.int .u64 m)) w.drew := ⟨hH.cell 0, hH.cell 1, hH.cell 2⟩
  replace hN := NdR.below _ hN hdr
  replace hF := RfN.below _ hF hdr
  replace hB := hB.drew
  have HP := Lib.hid hpost
  clear hdr hH hk hpost
  generalize rightB (hz k0 k1 m) 13 t [] = r at *
  generalize encR 14 t = ex at *
  simp only []
  conv => arg 2; whnf
  go_upto_region 21 with (fail)
  refine wp_region_held_drew (S := (fun w' : World => w'.cell? ⟨N5, 0, none⟩ = some (.int .u64 k0) ∧ w'.cell? ⟨N5, 1, none⟩ = some (.int .u64 k1) ∧ w'.cell? ⟨N5, 2, none⟩ = some (.int .u64 m))) (by kernel_rfl) hS0 ?_
  intro hS
  refine wpAnyH_take (i := 0) (oi := { dst := some 111, op := Go.Op.move (Go.Operand.tmp 11), type := 29, pos := "law.go:140", after := #[], guard := none }) (v := .pointer (some ⟨b, 0, none⟩)) rfl (by kernel_rfl) (by kernel_rfl) (by kernel_rfl) (fun _ _ _ h => h) (Or.inl ⟨by rfl, fun w hSw => ?_⟩) hS ?_
  · go_split_ands
    go_simp
  try simp only [Act.put, List.setIfInBounds_toArray, List.set_cons_zero, List.set_cons_succ]
  refine wpAnyH_take (i := 2) (oi := { dst := some 113, op := Go.Op.move (Go.Operand.tmp 13), type := 37, pos := "law.go:140", after := #[], guard := none }) (v := .pointer (some ⟨T, 0, none⟩)) rfl (by kernel_rfl) (by kernel_rfl) (by kernel_rfl) (fun _ _ _ h => h) (Or.inl ⟨by rfl, fun w hSw => ?_⟩) hS ?_
  · go_split_ands
    go_simp
  try simp only [Act.put, List.setIfInBounds_toArray, List.set_cons_zero, List.set_cons_succ]
  refine wpAnyH_ready (rs := [1]) (by kernel_rfl) (by simp) ?_
  refine AllReadyH.cons (o := { dst := some 112, op := Go.Op.call { callee := Go.Callee.value (Go.Operand.func 11), args := #[Go.Operand.tmp 111], argTypes := #[29] }, type := 34, pos := "law.go:140", after := #[{ on := 0, ground := Go.Ground.data }], guard := none }) rfl (fun K hK => ?_) AllReadyH.nil
  go_simp
  refine (kOf _ hN).mono ?_
  rintro e wA ⟨v1, rfl, ho1, hBA, -⟩
  obtain ⟨A1, c1, rfl⟩ := own_formN ho1
  go_wp2_with fail
  have hSn := keepH hS hBA
  refine hK.out _ _ hSn (fun _ => ?_)
  clear hK K hS
  try simp only [Act.put, List.setIfInBounds_toArray, List.set_cons_zero, List.set_cons_succ]
  have hS := hSn
  clear hSn
  have hB := hB.trans (hBA.mono hB.size)
  replace hN := NdR.below _ hN hBA
  replace hF := RfN.below _ hF hBA
  refine wpAnyH_ready (rs := [3]) (by kernel_rfl) (by simp) ?_
  refine AllReadyH.cons (o := { dst := some 114, op := Go.Op.call { callee := Go.Callee.value (Go.Operand.func 12), args := #[Go.Operand.tmp 113, Go.Operand.const (Go.Value.int Go.IntKind.i64 0)], argTypes := #[37, 3] }, type := 34, pos := "law.go:140", after := #[{ on := 2, ground := Go.Ground.data }, { on := 1, ground := Go.Ground.chain }], guard := none }) rfl (fun K hK => ?_) AllReadyH.nil
  go_simp
  refine (kEnc _ hF).mono ?_
  rintro e wC ⟨v2, rfl, ho2, hBC⟩
  obtain ⟨A2, c2, rfl⟩ := own_formN ho2
  go_wp2_with fail
  have hSn := keepH hS hBC
  refine hK.out _ _ hSn (fun _ => ?_)
  clear hK K hS
  try simp only [Act.put, List.setIfInBounds_toArray, List.set_cons_zero, List.set_cons_succ]
  have hS := hSn
  clear hSn
  have hB := hB.trans (hBC.mono hB.size)
  replace hN := NdR.below _ hN hBC
  replace hF := RfN.below _ hF hBC
  replace ho1 := ho1.below hBC
  refine wpAnyH_ready (rs := [4]) (by kernel_rfl) (by simp) ?_
  refine AllReadyH.cons (o := { dst := some 115, op := Go.Op.call { callee := Go.Callee.value (Go.Operand.func 10), args := #[Go.Operand.tmp 112, Go.Operand.tmp 114], argTypes := #[34, 34] }, type := 4, pos := "law.go:140", after := #[{ on := 1, ground := Go.Ground.data }, { on := 3, ground := Go.Ground.data }, { on := 3, ground := Go.Ground.chain }], guard := none }) rfl (fun K hK => ?_) AllReadyH.nil
  go_simp
  refine (kEq _ _ _ _ _ ho1 ho2).mono ?_
  rintro e wD ⟨rfl, nF, rfl⟩
  have hBD := below_drewK wC nF
  go_wp2_with fail
  have hSn := keepH hS hBD
  refine hK.out _ _ hSn (fun _ => ?_)
  clear hK K hS
  try simp only [Act.put, List.setIfInBounds_toArray, List.set_cons_zero, List.set_cons_succ]
  have hS := hSn
  clear hSn
  have hB := hB.trans (hBD.mono hB.size)
  replace hN := NdR.below _ hN hBD
  replace hF := RfN.below _ hF hBD
  clear ho1 ho2
  refine wpAnyH_take (i := 5) (oi := { dst := some 116, op := Go.Op.move (Go.Operand.tmp 115), type := 4, pos := "law.go:140", after := #[{ on := 4, ground := Go.Ground.data }, { on := 4, ground := Go.Ground.chain }], guard := none }) (v := .bool true) rfl (by kernel_rfl) (by kernel_rfl) (by kernel_rfl) (fun _ _ _ h => h) (Or.inl ⟨by rfl, fun w hSw => ?_⟩) hS ?_
  · go_split_ands
    go_simp
  try simp only [Act.put, List.setIfInBounds_toArray, List.set_cons_zero, List.set_cons_succ]
  refine wpAnyH_take (i := 6) (oi := { dst := some 117, op := Go.Op.load 26 (Go.Operand.tmp 5), type := 26, pos := "law.go:140", after := #[{ on := 5, ground := Go.Ground.guard }], guard := some (5, true) }) (v := .agg #[.int .u64 k0, .int .u64 k1, .int .u64 m]) rfl (by kernel_rfl) (by kernel_rfl) (by kernel_rfl) (fun _ _ _ h => h) (Or.inl ⟨by rfl, fun w hSw => ?_⟩) hS ?_
  · go_split_ands
    go_simp
  try simp only [Act.put, List.setIfInBounds_toArray, List.set_cons_zero, List.set_cons_succ]
  refine wpAnyH_take (i := 7) (oi := { dst := some 118, op := Go.Op.move (Go.Operand.tmp 11), type := 29, pos := "law.go:140", after := #[{ on := 5, ground := Go.Ground.guard }], guard := some (5, true) }) (v := .pointer (some ⟨b, 0, none⟩)) rfl (by kernel_rfl) (by kernel_rfl) (by kernel_rfl) (fun _ _ _ h => h) (Or.inl ⟨by rfl, fun w hSw => ?_⟩) hS ?_
  · go_split_ands
    go_simp
  try simp only [Act.put, List.setIfInBounds_toArray, List.set_cons_zero, List.set_cons_succ]
  refine wpAnyH_take (i := 9) (oi := { dst := some 120, op := Go.Op.load 26 (Go.Operand.tmp 5), type := 26, pos := "law.go:140", after := #[{ on := 5, ground := Go.Ground.guard }], guard := some (5, true) }) (v := .agg #[.int .u64 k0, .int .u64 k1, .int .u64 m]) rfl (by kernel_rfl) (by kernel_rfl) (by kernel_rfl) (fun _ _ _ h => h) (Or.inl ⟨by rfl, fun w hSw => ?_⟩) hS ?_
  · go_split_ands
    go_simp
  try simp only [Act.put, List.setIfInBounds_toArray, List.set_cons_zero, List.set_cons_succ]
  refine wpAnyH_take (i := 11) (oi := { dst := some 122, op := Go.Op.move (Go.Operand.tmp 13), type := 37, pos := "law.go:140", after := #[{ on := 5, ground := Go.Ground.guard }], guard := some (5, true) }) (v := .pointer (some ⟨T, 0, none⟩)) rfl (by kernel_rfl) (by kernel_rfl) (by kernel_rfl) (fun _ _ _ h => h) (Or.inl ⟨by rfl, fun w hSw => ?_⟩) hS ?_
  · go_split_ands
    go_simp
  try simp only [Act.put, List.setIfInBounds_toArray, List.set_cons_zero, List.set_cons_succ]
  refine wpAnyH_ready (rs := [8]) (by kernel_rfl) (by simp) ?_
  refine AllReadyH.cons (o := { dst := some 119, op := Go.Op.call { callee := Go.Callee.value (Go.Operand.func 15), args := #[Go.Operand.tmp 117, Go.Operand.tmp 118], argTypes := #[26, 29] }, type := 4, pos := "law.go:140", after := #[{ on := 6, ground := Go.Ground.data }, { on := 7, ground := Go.Ground.data }, { on := 5, ground := Go.Ground.chain }, { on := 5, ground := Go.Ground.guard }], guard := some (5, true) }) rfl (fun K hK => ?_) AllReadyH.nil
  go_simp
  refine (kCan _ hN).mono ?_
  rintro e wE ⟨rfl, hBE⟩
  go_wp2_with fail
  have hSn := keepH hS hBE
  refine hK.out _ _ hSn (fun _ => ?_)
  clear hK K hS
  try simp only [Act.put, List.setIfInBounds_toArray, List.set_cons_zero, List.set_cons_succ]
  have hS := hSn
  clear hSn
  have hB := hB.trans (hBE.mono hB.size)
  replace hN := NdR.below _ hN hBE
  replace hF := RfN.below _ hF hBE
  refine wpAnyH_ready (rs := [10]) (by kernel_rfl) (by simp) ?_
  refine AllReadyH.cons (o := { dst := some 121, op := Go.Op.call { callee := Go.Callee.value (Go.Operand.func 14), args := #[Go.Operand.tmp 120], argTypes := #[26] }, type := 40, pos := "law.go:140", after := #[{ on := 9, ground := Go.Ground.data }, { on := 8, ground := Go.Ground.chain }, { on := 5, ground := Go.Ground.guard }], guard := some (5, true) }) rfl (fun K hK => ?_) AllReadyH.nil
  go_simp
  refine (own_any k0 k1 m _).mono ?_
  rintro e wF ⟨rfl, hBF⟩
  go_wp2_with fail
  have hSn := keepH hS hBF
  refine hK.out _ _ hSn (fun _ => ?_)
  clear hK K hS
  try simp only [Act.put, List.setIfInBounds_toArray, List.set_cons_zero, List.set_cons_succ]
  have hS := hSn
  clear hSn
  have hB := hB.trans (hBF.mono hB.size)
  replace hN := NdR.below _ hN hBF
  replace hF := RfN.below _ hF hBF
  refine wpAnyH_ready (rs := [12]) (by kernel_rfl) (by simp) ?_
  refine AllReadyH.cons (o := { dst := some 123, op := Go.Op.call { callee := Go.Callee.value (Go.Operand.func 19), args := #[Go.Operand.tmp 121, Go.Operand.tmp 122], argTypes := #[40, 37] }, type := 4, pos := "law.go:140", after := #[{ on := 10, ground := Go.Ground.data }, { on := 11, ground := Go.Ground.data }, { on := 10, ground := Go.Ground.chain }, { on := 5, ground := Go.Ground.guard }], guard := some (5, true) }) rfl (fun K hK => ?_) AllReadyH.nil
  go_simp
  refine (kRef _ hF).mono ?_
  rintro e wG ⟨rfl, hBG⟩
  go_wp2_with fail
  have hSn := keepH hS hBG
  refine hK.out _ _ hSn (fun _ => ?_)
  clear hK K hS
  try simp only [Act.put, List.setIfInBounds_toArray, List.set_cons_zero, List.set_cons_succ]
  have hS := hSn
  clear hSn
  have hB := hB.trans (hBG.mono hB.size)
  refine wpAnyH_take (i := 13) (oi := { dst := some 124, op := Go.Op.binOp Go.BinOp.eql 4 (Go.Operand.tmp 119) (Go.Operand.tmp 123) 4, type := 4, pos := "law.go:140", after := #[{ on := 8, ground := Go.Ground.data }, { on := 12, ground := Go.Ground.data }, { on := 5, ground := Go.Ground.guard }], guard := some (5, true) }) (v := .bool true) rfl (by kernel_rfl) (by kernel_rfl) (by kernel_rfl) (fun _ _ _ h => h) (Or.inl ⟨by rfl, fun w hSw => ?_⟩) hS ?_
  · go_split_ands
    go_simp
  try simp only [Act.put, List.setIfInBounds_toArray, List.set_cons_zero, List.set_cons_succ]
  refine wpAnyH_take (i := 14) (oi := { dst := some 125, op := Go.Op.pick (Go.Operand.tmp 116) (Go.Operand.tmp 124) (Go.Operand.const (Go.Value.bool false)), type := 4, pos := "law.go:140", after := #[{ on := 5, ground := Go.Ground.data }, { on := 13, ground := Go.Ground.data }], guard := none }) (v := .bool true) rfl (by kernel_rfl) (by kernel_rfl) (by kernel_rfl) (fun _ _ _ h => h) (Or.inl ⟨by rfl, fun w hSw => ?_⟩) hS ?_
  · go_split_ands
    go_simp
  try simp only [Act.put, List.setIfInBounds_toArray, List.set_cons_zero, List.set_cons_succ]
  refine wpAnyH_take (i := 15) (oi := { dst := some 10, op := Go.Op.assign (Go.Operand.tmp 125), type := 4, pos := "law.go:140", after := #[{ on := 14, ground := Go.Ground.data }, { on := 12, ground := Go.Ground.chain }, { on := 0, ground := Go.Ground.phase }, { on := 1, ground := Go.Ground.phase }, { on := 2, ground := Go.Ground.phase }, { on := 3, ground := Go.Ground.phase }, { on := 4, ground := Go.Ground.phase }, { on := 5, ground := Go.Ground.phase }, { on := 6, ground := Go.Ground.phase }, { on := 7, ground := Go.Ground.phase }, { on := 8, ground := Go.Ground.phase }, { on := 9, ground := Go.Ground.phase }, { on := 10, ground := Go.Ground.phase }, { on := 11, ground := Go.Ground.phase }, { on := 12, ground := Go.Ground.phase }, { on := 13, ground := Go.Ground.phase }, { on := 14, ground := Go.Ground.phase }], guard := none }) (v := .bool true) rfl (by kernel_rfl) (by kernel_rfl) (by kernel_rfl) (fun _ _ _ h => h) (Or.inl ⟨by rfl, fun w hSw => ?_⟩) hS ?_
  · go_split_ands
    go_simp
  try simp only [Act.put, List.setIfInBounds_toArray, List.set_cons_zero, List.set_cons_succ]
  refine wpAnyH_done (by kernel_rfl) ?_ _
  go_wp2_with fail
  exact HP.out _ hB
end Go.Proofs.YtchimfgbdfmegaaGreat.shapeBends
