/- near.way: the stops on the way down. -/
import Derived.Test.YtimhdegdmdilaaaHar
import Derived.Deep.AppendLies
import Derived.BigQuiet
import Derived.Deep.RegionHeld3
import Derived.RangeFuncNested
import Derived.RangeFuncBound
import Derived.RangeFuncCalls
import Derived.RangeFuncLeaves
import Derived.RangeFuncBox
import Derived.Shelf.Abstract
import Derived.Shelf.RegionOpen
import Derived.OwnWalkIn
import Derived.TacticsInMore
import Derived.LoopNIn
import Derived.LoopIn
import Derived.Maps.AppendAt
import Derived.Laws.OwnMore
import Derived.Laws.Rows
namespace Go.Proofs.Ytimhdegdmdilaaa
open Go.RowKit Go.Lib
set_option linter.unusedVariables false
set_option linter.unnecessarySimpa false
set_option linter.unusedSimpArgs false
set_option linter.unnecessarySimpa false
set_option maxRecDepth 100000
def WayR (base : Nat) (w : World) (v : Value) (L : List StC) : Prop := w.ownsRow base 88 4 v L.length (L.flatMap StC.cells)
/-- how much of the way is ahead -/
def wayLeft : Value → Value → Nat
  | .string s, .pointer none => 2 * s.size
  | .string s, _ => 2 * s.size + 1
  | _, _ => 0
/-- where the way stands -/
inductive WayAt (w : World) (t0 : RX) (key : List UInt8) (L : List StC) (rest : ByteArray) : Value → Prop
  | on {b : Nat} {t : RX} {pre : List UInt8} : RadT w b t → Can t → Shrt 1000 t → pre ++ rest.data.toList = key → L.length + rest.size ≤ 1000 → Hid (∀ S, WayS t pre rest.data.toList S → WayS t0 [] key (L.map (·.s) ++ S)) → WayAt w t0 key L rest (.pointer (some ⟨b, 0, none⟩))
  | off : Hid (WayS t0 [] key (L.map (·.s))) → WayAt w t0 key L rest (.pointer none)
theorem info88 : (Try.prog.info? 88).map (fun i => (i.zero, i.size, i.bytes)) = some (some (.agg #[.pointer none, .string ⟨#[]⟩, .slice none 0 0, .slice none 0 0]), 4, 72) := by kernel_rfl
theorem zsz88 : (Value.cells (.agg #[.pointer none, .string ⟨#[]⟩, .slice none 0 0, .slice none 0 0])).size = 4 := by simp [Value.cells]
theorem Keep.trans'' {X : List Nat} {a b c : World} (h : Keep X a b) (k : Keep [] b c) : Keep X a c := ⟨h.1.trans k.1, fun i hi hx => (k.2 i (Nat.lt_of_lt_of_le hi h.1.size) (by simp)).trans (h.2 i hi hx)⟩
theorem Keep.trans' {X : List Nat} {a b c : World} (h : Keep [] a b) (k : Keep X b c) : Keep X a c := ⟨h.1.trans k.1, fun i hi hx => (k.2 i (Nat.lt_of_lt_of_le hi h.1.size) hx).trans (h.2 i hi (by simp))⟩
theorem Blk.set4 {w : World} {g : Nat} {x y z u : Value} (h : Blk w g 88 #[x, y, z, u]) (a b c d : Value) : Blk ((((w.setCell ⟨g, 0, none⟩ a).setCell ⟨g, 1, none⟩ b).setCell ⟨g, 2, none⟩ c).setCell ⟨g, 3, none⟩ d) g 88 #[a, b, c, d] := by
  have h' : w.heap[g]? = some (.cells #[x, y, z, u] 88 (0, 0)) := h
  unfold Blk
  simp [World.setCell, h', Array.getElem?_modify]
/-- a part of a node's children -/
theorem KidsV.part {base : Nat} {w : World} {t : RX} {g N c : Nat} {bs : List Nat} (h : KidsV base w t (.slice (some ⟨g, 0, none⟩) N c) bs) (lo n c' : Nat) (hn : lo + n ≤ bs.length) : SlK w (.slice (some ⟨g, lo, none⟩) n c') ((t.kids.drop lo).take n) := by
  have hl := h.len
  have hlen : ((t.kids.drop lo).take n).length = n := by rw [List.length_take, List.length_drop]; omega
  obtain ⟨cur, hc⟩ := own_cells h.own g rfl
  refine .inr ⟨g, lo, c', (bs.drop lo).take n, cur, by rw [hlen], hc, by rw [hlen, List.length_take, List.length_drop]; omega, fun i b hb => ?_, fun i b k hb hk => ?_⟩
  · have hi : i < n := by
      have := (List.getElem?_eq_some_iff.1 hb).1
      rw [List.length_take] at this; omega
    rw [List.getElem?_take, if_pos hi, List.getElem?_drop] at hb
    obtain ⟨g', c2, e, h2⟩ := h.own.at_ (lo + i) (by omega)
    simp only [Value.slice.injEq, Option.some.injEq, Addr.mk.injEq] at e
    obtain ⟨⟨rfl, -, -⟩, -, -⟩ := e
    have h3 : w.cell? ⟨g, lo + i, none⟩ = cur[lo + i]? := (show Blk w g 24 cur from hc).cell (lo + i)
    rw [← h3, h2, List.getD_eq_getElem?_getD, hb]; rfl
  · have hi : i < n := by
      have := (List.getElem?_eq_some_iff.1 hb).1
      rw [List.length_take] at this; omega
    rw [List.getElem?_take, if_pos hi, List.getElem?_drop] at hb hk
    exact h.rad (lo + i) b k hb hk
theorem extract_pre {key : ByteArray} {pre r : List UInt8} (h : pre ++ r = key.data.toList) : (key.extract 0 pre.length).data.toList = pre := by
  rw [ByteArray.data_extract, Array.toList_extract, ← h]
  simp [List.extract]
theorem restS_at {rest lab : ByteArray} {l r : List UInt8} (hl : lab.data.toList = l) (hr : rest.data.toList = l ++ r) : (Tw.restS rest lab).data.toList = r := by
  have hb : Tw.bgB rest lab = true := by rw [Tw.bgB_iff, hl, hr]; exact List.prefix_append _ _
  have hs : lab.size = l.length := by rw [← hl]; exact (size_of lab).symm
  have hs2 : rest.size = l.length + r.length := by rw [← size_of rest, hr, List.length_append]
  unfold Tw.restS
  rw [if_pos hb, ByteArray.data_extract, Array.toList_extract, hr, hs, hs2]
  simp [List.extract]
set_option maxHeartbeats 8000000 in
theorem way_any (b : Nat) (t : RX) (key : ByteArray) (w : World) (h : RadT w b t) (hc : Can t) (hs : Shrt 1000 t) (hk : key.size ≤ 1000) :
    Calls Try.prog 59 #[at0 b, .string key] w fun e w' => ∃ v L, e = .returned v ∧ WayR w.heap.size w' v L ∧ (∀ c ∈ L, StOK w' c) ∧ WayS t [] key.data.toList (L.map (·.s)) ∧ Below w.heap.size w w' := by
  obtain ⟨i88, hi88, hy880, hy881, hy882⟩ := info_parts info88
  have HH := Lib.hid (⟨h, hc, hs⟩ : RadT w b t ∧ Can t ∧ Shrt 1000 t)
  clear h hc hs
  unfold at0
  go_enter Try.func59, Try.ntmps59
  go_wp2_with fail
  go_loopw [5, 6, 7] (fun v5 v6 v7 wr => ∃ (L : List StC) (rest : ByteArray), v6 = .string rest ∧ rest.size ≤ key.size ∧ WayR w.heap.size wr v5 L ∧ (∀ c ∈ L, StOK wr c) ∧ WayAt wr t key.data.toList L rest v7 ∧ Below w.heap.size w wr) (fun v5 v6 v7 wr => wayLeft v6 v7)
  case atStart => exact ⟨[], key, rfl, Nat.le_refl _, ⟨rfl, .inl ⟨rfl, rfl⟩⟩, by simp, .on HH.out.1 HH.out.2.1 HH.out.2.2 (by simp) (by simpa using hk) (Lib.hid (fun S hS => hS)), Below.refl _ _⟩
  case round =>
    clear HH
    obtain ⟨L, rest, rfl, hrest, hR, hL, hA, hB⟩ := hrel
    cases hA with
    | off hW =>
      go_wp2_with fail
      go_ret
      exact ⟨_, L, rfl, hR, hL, hW.out, hB⟩
    | @on b' t' pre hr hcn hsh hpre hlen hW =>
      have kk := kids_v b' t' wr hr hcn
      have HR := Lib.hid hR
      have HL := Lib.hid hL
      have HB := Lib.hid hB
      have hbs := hB.size
      have HRL0 := Lib.hid (fun g (hg : u5.ownBlock = some g) => (own_cells hR g hg).elim fun cs hc => blk_lt hc)
      have hHr := Lib.hid hr
      have HCN := Lib.hid hcn
      have HSH := Lib.hid hsh
      have HPRE := Lib.hid hpre
      clear hR hL hB hr hcn hsh hpre
      unfold at0 at kk
      go_wp2_with fail
      refine kk.mono ?_
      rintro e w1 ⟨v1, bs, rfl, hK, hB1⟩
      have hfew := kids_few HCN.out
      have hlab : ∀ k ∈ t'.kids, k.lab.length ≤ 1000 := fun k hk => HSH.out.lab HCN.out hk
      have hK : KidsV w.heap.size w1 t' v1 bs := ⟨⟨hK.own.1, hK.own.2.imp id (fun ⟨g, cap, cur, h1, h2, h3⟩ => ⟨g, cap, cur, h1, Nat.le_trans hbs h2, h3⟩)⟩, hK.len, hK.rad⟩
      have ks := bsearchO w.heap.size v1 bs t'.kids rest w1 hK.own hK.len hK.rad (by omega) HCN.out.rises (fun k hk => (HCN.out.kd k hk).1) hlab (by omega)
      obtain ⟨Q, hQ⟩ : ∃ Q, Q = posO t'.kids rest.data.toList := ⟨_, rfl⟩
      obtain ⟨F, hF⟩ : ∃ F, F = isO t'.kids rest.data.toList := ⟨_, rfl⟩
      rw [← hQ, ← hF] at ks
      have hQle : Q ≤ bs.length := by rw [hK.len, hQ]; exact posO_le _ _
      have hNs : bs.length ≤ 257 := by rw [hK.len]; exact hfew
      have HQ := Lib.hid hQ
      have HF := Lib.hid hF
      have hP1 : pre.length + rest.size = key.size := by
        have := congrArg List.length HPRE.out
        rw [List.length_append, size_of, size_of] at this
        exact this
      obtain ⟨P, hP⟩ : ∃ P, P = pre.length := ⟨_, rfl⟩
      have HKP := Lib.hid (show (key.extract 0 P).data.toList = pre by rw [hP]; exact extract_pre HPRE.out)
      rw [← hP] at hP1
      have M1 : IntKind.i64.wrap ((key.size : Int) - (rest.size : Int)) = (P : Int) := by rw [IntWalk.i64_in _ (by omega)]; omega
      have M2 : (P : Int) ≤ (key.size : Int) := by omega
      have M3 : P ≤ key.size := by omega
      unfold fn91 at ks
      have hHK := Lib.hid hK
      have HBS := Lib.hid (⟨hQle, hNs⟩ : Q ≤ bs.length ∧ bs.length ≤ 257)
      clear kk hQ hF hP hP1 hlab hfew hK
      have HPO := Lib.hid (hHK.out.own.2)
      have HB1 := Lib.hid hB1
      clear hB1
      rcases HPO.out with ⟨rfl, hb0⟩ | ⟨g, c, cur, rfl, hg1, hg2, hg3, hg4, hg5, hg6⟩
      · have hbl : bs = [] := List.length_eq_zero_iff.1 hb0
        have hkn : t'.kids = [] := List.length_eq_zero_iff.1 (by rw [← hHK.out.len]; exact hb0)
        obtain rfl : Q = 0 := by omega
        have hF0 : F = false := by rw [HF.out, hkn]; rfl
        subst hF0
        have HLS : SlK wr (.slice none 0 0) (lessS ⟨t', pre, rest.data.toList⟩) := (.inl ⟨rfl, by unfold lessS; rw [show (⟨t', pre, rest.data.toList⟩ : St).t.kids = [] from hkn]; simp⟩)
        have HMO : SlK wr (.slice none 0 0) (moreS ⟨t', pre, rest.data.toList⟩) := (.inl ⟨rfl, by unfold moreS; rw [show (⟨t', pre, rest.data.toList⟩ : St).t.kids = [] from hkn]; simp⟩)
        have HST := Lib.hid (hW.out _ (WayS.stop HF.out.symm))
        clear hbl hkn hb0 HPO hW
        go_wp2_with fail
        refine ks.mono ?_
        rintro e w2 ⟨rfl, hB2⟩
        clear ks
        go_upto_region 7 with (fail)
        refine wp_region_held_drew (S := fun _ : World => True) (by kernel_rfl) trivial ?_
        intro hS
        refine wpAnyH_take (i := 0) (oi := { dst := some 24, op := Go.Op.move (Go.Operand.tmp 7), type := 24, pos := "way.go:29", after := #[], guard := none }) (v := .pointer (some ⟨b', 0, none⟩)) rfl (by kernel_rfl) (by kernel_rfl) (by kernel_rfl) (fun _ _ _ h => h) (Or.inl ⟨by rfl, fun w hSw => ?_⟩) hS ?_
        · go_split_ands
          go_simp
        try simp only [Act.put, List.setIfInBounds_toArray, List.set_cons_zero, List.set_cons_succ]
        refine wpAnyH_take (i := 1) (oi := { dst := some 25, op := Go.Op.move (Go.Operand.tmp 1), type := 9, pos := "way.go:29", after := #[], guard := none }) (v := .string key) rfl (by kernel_rfl) (by kernel_rfl) (by kernel_rfl) (fun _ _ _ h => h) (Or.inl ⟨by rfl, fun w hSw => ?_⟩) hS ?_
        · go_split_ands
          go_simp
        try simp only [Act.put, List.setIfInBounds_toArray, List.set_cons_zero, List.set_cons_succ]
        refine wpAnyH_take (i := 2) (oi := { dst := some 26, op := Go.Op.move (Go.Operand.tmp 1), type := 9, pos := "way.go:29", after := #[], guard := none }) (v := .string key) rfl (by kernel_rfl) (by kernel_rfl) (by kernel_rfl) (fun _ _ _ h => h) (Or.inl ⟨by rfl, fun w hSw => ?_⟩) hS ?_
        · go_split_ands
          go_simp
        try simp only [Act.put, List.setIfInBounds_toArray, List.set_cons_zero, List.set_cons_succ]
        refine wpAnyH_take (i := 3) (oi := { dst := some 27, op := Go.Op.call { callee := Go.Callee.builtin Go.Builtin.len, args := #[Go.Operand.tmp 26], argTypes := #[9] }, type := 3, pos := "way.go:29", after := #[{ on := 2, ground := Go.Ground.data }], guard := none }) (v := .int .i64 key.size) rfl (by kernel_rfl) (by kernel_rfl) (by kernel_rfl) (fun _ _ _ h => h) (Or.inl ⟨by rfl, fun w hSw => ?_⟩) hS ?_
        · go_split_ands
          go_simp
        try simp only [Act.put, List.setIfInBounds_toArray, List.set_cons_zero, List.set_cons_succ]
        refine wpAnyH_take (i := 4) (oi := { dst := some 28, op := Go.Op.move (Go.Operand.tmp 6), type := 9, pos := "way.go:29", after := #[], guard := none }) (v := .string rest) rfl (by kernel_rfl) (by kernel_rfl) (by kernel_rfl) (fun _ _ _ h => h) (Or.inl ⟨by rfl, fun w hSw => ?_⟩) hS ?_
        · go_split_ands
          go_simp
        try simp only [Act.put, List.setIfInBounds_toArray, List.set_cons_zero, List.set_cons_succ]
        refine wpAnyH_take (i := 5) (oi := { dst := some 29, op := Go.Op.call { callee := Go.Callee.builtin Go.Builtin.len, args := #[Go.Operand.tmp 28], argTypes := #[9] }, type := 3, pos := "way.go:29", after := #[{ on := 4, ground := Go.Ground.data }], guard := none }) (v := .int .i64 rest.size) rfl (by kernel_rfl) (by kernel_rfl) (by kernel_rfl) (fun _ _ _ h => h) (Or.inl ⟨by rfl, fun w hSw => ?_⟩) hS ?_
        · go_split_ands
          go_simp
        try simp only [Act.put, List.setIfInBounds_toArray, List.set_cons_zero, List.set_cons_succ]
        refine wpAnyH_take (i := 6) (oi := { dst := some 30, op := Go.Op.binOp Go.BinOp.sub 3 (Go.Operand.tmp 27) (Go.Operand.tmp 29) 3, type := 3, pos := "way.go:29", after := #[{ on := 3, ground := Go.Ground.data }, { on := 5, ground := Go.Ground.data }], guard := none }) (v := .int .i64 P) rfl (by kernel_rfl) (by kernel_rfl) (by kernel_rfl) (fun _ _ _ h => h) (Or.inl ⟨by rfl, fun w hSw => ?_⟩) hS ?_
        · go_split_ands
          go_simp
        try simp only [Act.put, List.setIfInBounds_toArray, List.set_cons_zero, List.set_cons_succ]
        refine wpAnyH_take (i := 7) (oi := { dst := some 31, op := Go.Op.slice 9 (Go.Operand.tmp 25) none (some (Go.Operand.tmp 30)) none, type := 9, pos := "way.go:29", after := #[{ on := 1, ground := Go.Ground.data }, { on := 6, ground := Go.Ground.data }], guard := none }) (v := .string (key.extract 0 P)) rfl (by kernel_rfl) (by kernel_rfl) (by kernel_rfl) (fun _ _ _ h => h) (Or.inl ⟨by rfl, fun w hSw => ?_⟩) hS ?_
        · go_split_ands
          go_simp
        try simp only [Act.put, List.setIfInBounds_toArray, List.set_cons_zero, List.set_cons_succ]
        refine wpAnyH_take (i := 8) (oi := { dst := some 32, op := Go.Op.move (Go.Operand.tmp 8), type := 86, pos := "way.go:29", after := #[], guard := none }) (v := .slice none 0 0) rfl (by kernel_rfl) (by kernel_rfl) (by kernel_rfl) (fun _ _ _ h => h) (Or.inl ⟨by rfl, fun w hSw => ?_⟩) hS ?_
        · go_split_ands
          go_simp
        try simp only [Act.put, List.setIfInBounds_toArray, List.set_cons_zero, List.set_cons_succ]
        refine wpAnyH_take (i := 9) (oi := { dst := some 33, op := Go.Op.move (Go.Operand.tmp 9), type := 3, pos := "way.go:29", after := #[], guard := none }) (v := .int .i64 0) rfl (by kernel_rfl) (by kernel_rfl) (by kernel_rfl) (fun _ _ _ h => h) (Or.inl ⟨by rfl, fun w hSw => ?_⟩) hS ?_
        · go_split_ands
          go_simp
        try simp only [Act.put, List.setIfInBounds_toArray, List.set_cons_zero, List.set_cons_succ]
        refine wpAnyH_take (i := 10) (oi := { dst := some 34, op := Go.Op.slice 86 (Go.Operand.tmp 32) none (some (Go.Operand.tmp 33)) none, type := 86, pos := "way.go:29", after := #[{ on := 8, ground := Go.Ground.data }, { on := 9, ground := Go.Ground.data }], guard := none }) (v := .slice none 0 0) rfl (by kernel_rfl) (by kernel_rfl) (by kernel_rfl) (fun _ _ _ h => h) (Or.inl ⟨by rfl, fun w hSw => ?_⟩) hS ?_
        · go_split_ands
          go_simp
        try simp only [Act.put, List.setIfInBounds_toArray, List.set_cons_zero, List.set_cons_succ]
        refine wpAnyH_take (i := 11) (oi := { dst := some 35, op := Go.Op.move (Go.Operand.tmp 8), type := 86, pos := "way.go:29", after := #[], guard := none }) (v := .slice none 0 0) rfl (by kernel_rfl) (by kernel_rfl) (by kernel_rfl) (fun _ _ _ h => h) (Or.inl ⟨by rfl, fun w hSw => ?_⟩) hS ?_
        · go_split_ands
          go_simp
        try simp only [Act.put, List.setIfInBounds_toArray, List.set_cons_zero, List.set_cons_succ]
        refine wpAnyH_take (i := 12) (oi := { dst := some 36, op := Go.Op.move (Go.Operand.tmp 9), type := 3, pos := "way.go:29", after := #[], guard := none }) (v := .int .i64 0) rfl (by kernel_rfl) (by kernel_rfl) (by kernel_rfl) (fun _ _ _ h => h) (Or.inl ⟨by rfl, fun w hSw => ?_⟩) hS ?_
        · go_split_ands
          go_simp
        try simp only [Act.put, List.setIfInBounds_toArray, List.set_cons_zero, List.set_cons_succ]
        refine wpAnyH_take (i := 13) (oi := { dst := some 37, op := Go.Op.slice 86 (Go.Operand.tmp 35) (some (Go.Operand.tmp 36)) none none, type := 86, pos := "way.go:29", after := #[{ on := 11, ground := Go.Ground.data }, { on := 12, ground := Go.Ground.data }], guard := none }) (v := .slice none 0 0) rfl (by kernel_rfl) (by kernel_rfl) (by kernel_rfl) (fun _ _ _ h => h) (Or.inl ⟨by rfl, fun w hSw => ?_⟩) hS ?_
        · go_split_ands
          go_simp
        try simp only [Act.put, List.setIfInBounds_toArray, List.set_cons_zero, List.set_cons_succ]
        refine wpAnyH_take (i := 14) (oi := { dst := some 38, op := Go.Op.build 88 #[(0, Go.Operand.tmp 24), (1, Go.Operand.tmp 31), (2, Go.Operand.tmp 34), (3, Go.Operand.tmp 37)], type := 88, pos := "way.go:29", after := #[{ on := 0, ground := Go.Ground.data }, { on := 7, ground := Go.Ground.data }, { on := 10, ground := Go.Ground.data }, { on := 13, ground := Go.Ground.data }], guard := none }) (v := .agg #[.pointer (some ⟨b', 0, none⟩), .string (key.extract 0 P), .slice none 0 0, .slice none 0 0]) rfl (by kernel_rfl) (by kernel_rfl) (by kernel_rfl) (fun _ _ _ h => h) (Or.inl ⟨by rfl, fun w hSw => ?_⟩) hS ?_
        · go_split_ands
          go_simp
        try simp only [Act.put, List.setIfInBounds_toArray, List.set_cons_zero, List.set_cons_succ]
        refine wpAnyH_ready (rs := [15]) (by kernel_rfl) (by simp) ?_
        refine AllReadyH.cons (o := { dst := some 11, op := Go.Op.alloc 88, type := 0, pos := "way.go:29", after := #[], guard := none }) rfl (fun K hK => ?_) AllReadyH.nil
        go_simp
        refine hK.out _ _ trivial (fun _ => ?_)
        clear hK K hS
        try simp only [Act.put, List.setIfInBounds_toArray, List.set_cons_zero, List.set_cons_succ]
        have hS : True := trivial
        refine wpAnyH_ready (rs := [16]) (by kernel_rfl) (by simp) ?_
        refine AllReadyH.cons (o := { dst := none, op := Go.Op.store 88 (Go.Operand.tmp 11) (Go.Operand.tmp 38), type := 0, pos := "way.go:29", after := #[{ on := 15, ground := Go.Ground.data }, { on := 14, ground := Go.Ground.data }, { on := 0, ground := Go.Ground.phase }, { on := 1, ground := Go.Ground.phase }, { on := 2, ground := Go.Ground.phase }, { on := 3, ground := Go.Ground.phase }, { on := 4, ground := Go.Ground.phase }, { on := 5, ground := Go.Ground.phase }, { on := 6, ground := Go.Ground.phase }, { on := 7, ground := Go.Ground.phase }, { on := 8, ground := Go.Ground.phase }, { on := 9, ground := Go.Ground.phase }, { on := 10, ground := Go.Ground.phase }, { on := 11, ground := Go.Ground.phase }, { on := 12, ground := Go.Ground.phase }, { on := 13, ground := Go.Ground.phase }, { on := 14, ground := Go.Ground.phase }, { on := 15, ground := Go.Ground.phase }], guard := none }) rfl (fun K hK => ?_) AllReadyH.nil
        go_simp
        refine hK.out _ _ trivial (fun _ => ?_)
        clear hK K hS
        try simp only [Act.put, List.setIfInBounds_toArray, List.set_cons_zero, List.set_cons_succ]
        have hS : True := trivial
        refine wpAnyH_done (by kernel_rfl) ?_ _
        have hBS := ((Below.refl _ w2).alloc (Nat.le_refl _) (.cells #[.pointer (some ⟨b', 0, none⟩), .string (key.extract 0 P), .slice none 0 0, .slice none 0 0] 88)).drew
        have bS := (Blk.new w2 88 #[.pointer (some ⟨b', 0, none⟩), .string (key.extract 0 P), .slice none 0 0, .slice none 0 0]).below (Below.refl _ (w2.alloc (.cells #[.pointer (some ⟨b', 0, none⟩), .string (key.extract 0 P), .slice none 0 0, .slice none 0 0] 88))).drew
        have hB13 := HB1.out.trans ((hB2.trans (hBS.mono hB2.size)).mono HB1.out.size)
        have HB4 := Lib.hid (HB.out.trans (hB13.mono HB.out.size))
        have HR4 := Lib.hid (own_keep HR.out (Keep.of_below (X := []) hB13) (by simp) : WayR w.heap.size _ u5 L)
        have HL4 := Lib.hid (fun c hc => (HL.out c hc).below hB13)
        have HRB4 := Lib.hid (hHr.out.stay hB13)
        have HLS := Lib.hid (SlK.below (ks := lessS ⟨t', pre, rest.data.toList⟩) (v := .slice none 0 0) HLS hB13)
        have HMO := Lib.hid (SlK.below (ks := moreS ⟨t', pre, rest.data.toList⟩) (v := .slice none 0 0) HMO hB13)
        have HS := Lib.hid bS
        clear hBS bS hB13 HB HR HL hHr hHK HB1 hB2
        generalize (w2.alloc (.cells #[.pointer (some ⟨b', 0, none⟩), .string (key.extract 0 P), .slice none 0 0, .slice none 0 0] 88)).drew = W4 at *
        generalize w2.heap.size = NS at *
        have d0 := HS.out.cell 0
        have d1 := HS.out.cell 1
        have d2 := HS.out.cell 2
        have d3 := HS.out.cell 3
        obtain ⟨C, hC⟩ : ∃ C : StC, C = ⟨⟨t', pre, rest.data.toList⟩, b', key.extract 0 P, .slice none 0 0, .slice none 0 0⟩ := ⟨_, rfl⟩
        have HC := Lib.hid hC
        have hbC := (Below.refl _ W4).alloc (Nat.le_refl _) (.cells #[.pointer (some ⟨b', 0, none⟩), .string (key.extract 0 P), .slice none 0 0, .slice none 0 0] 88)
        have hrow : (W4.alloc (.cells #[.pointer (some ⟨b', 0, none⟩), .string (key.extract 0 P), .slice none 0 0, .slice none 0 0] 88)).ownsRow w.heap.size 88 4 u5 L.length (L.flatMap StC.cells) := own_keep HR4.out (Keep.of_below (X := []) hbC) (by simp)
        have hnb : (W4.alloc (.cells #[.pointer (some ⟨b', 0, none⟩), .string (key.extract 0 P), .slice none 0 0, .slice none 0 0] 88)).heap[W4.heap.size]? = some (.cells #[.pointer (some ⟨b', 0, none⟩), .string (key.extract 0 P), .slice none 0 0, .slice none 0 0] 88 (0, 0)) := heap_alloc_new W4 _
        have hsz := (HB4.out.trans (hbC.mono HB4.out.size)).size
        have HBC := Lib.hid hbC
        clear hC hbC
        go_wp2_with (at_builtin; refine wpList_append_own_at _ rfl _ _ 85 rfl w.heap.size 88 i88 _ 4 72 Try.underlying85 hi88 hy880 hy881 hy882 zsz88 (by decide) _ _ _ rfl hrow ⟨W4.heap.size, 0, none⟩ 1 1 [.pointer (some ⟨b', 0, none⟩), .string (key.extract 0 P), .slice none 0 0, .slice none 0 0] rfl rfl (World.news_of_block hnb) (by simp [Value.oneCell']) (by unfold maxLen; omega) (by omega) hsz ?_; intro v' wa hown' hgrow hnil hat)
        replace hgrow : (W4.alloc (.cells #[.pointer (some ⟨b', 0, none⟩), .string (key.extract 0 P), .slice none 0 0, .slice none 0 0] 88)).grownBy wa u5.ownBlock := hgrow
        have kk := keep_grown hgrow
        have hX : ∀ x ∈ u5.ownBlock.toList, ∀ ty cs, Blk (W4.alloc (.cells #[.pointer (some ⟨b', 0, none⟩), .string (key.extract 0 P), .slice none 0 0, .slice none 0 0] 88)) x ty cs → ty ≠ 132 ∧ ty ≠ 24 := fun x hx ty cs hB => by
          obtain ⟨cs', hb⟩ := own_cells hrow x (by simpa using hx)
          unfold Blk at hB
          rw [hb] at hB
          simp at hB
          rw [← hB.2]
          exact ⟨by decide, by decide⟩
        have hRow : WayR w.heap.size wa v' (L ++ [C]) := by
          unfold WayR
          rw [List.length_append, List.flatMap_append, HC.out]
          exact hown'
        have hAll : ∀ c ∈ L ++ [C], StOK wa c := fun c hc => by
          rcases List.mem_append.1 hc with h | h
          · exact ((HL4.out c h).below HBC.out).kept kk hX
          · rw [List.mem_singleton] at h
            subst h
            rw [HC.out]
            exact (StOK.below ⟨HKP.out, HRB4.out, HCN.out, HLS.out, HMO.out⟩ HBC.out).kept kk hX
        have hBf := (HB4.out.trans (HBC.out.mono HB4.out.size)).grown hgrow hsz (own_ge hrow)
        refine ⟨⟨L ++ [C], rest, rfl, hrest, hRow, hAll, .off (Lib.hid ?_), hBf⟩, ?_⟩
        · rw [List.map_append, HC.out]; exact HST.out
        · simp [wayLeft]


      · obtain ⟨N, hN⟩ : ∃ N, N = bs.length := ⟨_, rfl⟩
        have HN := Lib.hid hN
        rw [← hN] at hHK hQle hNs hg3 ks ⊢
        clear hN hg6 HPO
        have N1 : (Q : Int) ≤ (N : Int) := by omega
        have N2 : (N : Int) ≤ (c : Int) := by omega
        have N3 : (Q : Int) ≤ (c : Int) := by omega
        obtain ⟨NQ, hNQ⟩ : ∃ NQ, NQ = N - Q := ⟨_, rfl⟩
        obtain ⟨CQ, hCQ⟩ : ∃ CQ, CQ = c - Q := ⟨_, rfl⟩
        have HNQ := Lib.hid hNQ
        have HCQ := Lib.hid hCQ
        clear hNQ hCQ
        obtain ⟨LO, hLO⟩ : ∃ LO, LO = if c = Q then 0 else Q := ⟨_, rfl⟩
        have N4 := Lib.hid (show (if c = Q then some (⟨g, 0, none⟩ : Addr) else some ⟨g, Q, none⟩) = some ⟨g, LO, none⟩ by rw [hLO]; split <;> rfl)
        have HLO := Lib.hid hLO
        clear hLO
        go_wp2_with fail
        refine ks.mono ?_
        rintro e w2 ⟨rfl, hB2⟩
        clear ks
        go_upto_region 7 with (fail)
        refine wp_region_held_drew (S := fun _ : World => True) (by kernel_rfl) trivial ?_
        intro hS
        refine wpAnyH_take (i := 0) (oi := { dst := some 24, op := Go.Op.move (Go.Operand.tmp 7), type := 24, pos := "way.go:29", after := #[], guard := none }) (v := .pointer (some ⟨b', 0, none⟩)) rfl (by kernel_rfl) (by kernel_rfl) (by kernel_rfl) (fun _ _ _ h => h) (Or.inl ⟨by rfl, fun w hSw => ?_⟩) hS ?_
        · go_split_ands
          go_simp
        try simp only [Act.put, List.setIfInBounds_toArray, List.set_cons_zero, List.set_cons_succ]
        refine wpAnyH_take (i := 1) (oi := { dst := some 25, op := Go.Op.move (Go.Operand.tmp 1), type := 9, pos := "way.go:29", after := #[], guard := none }) (v := .string key) rfl (by kernel_rfl) (by kernel_rfl) (by kernel_rfl) (fun _ _ _ h => h) (Or.inl ⟨by rfl, fun w hSw => ?_⟩) hS ?_
        · go_split_ands
          go_simp
        try simp only [Act.put, List.setIfInBounds_toArray, List.set_cons_zero, List.set_cons_succ]
        refine wpAnyH_take (i := 2) (oi := { dst := some 26, op := Go.Op.move (Go.Operand.tmp 1), type := 9, pos := "way.go:29", after := #[], guard := none }) (v := .string key) rfl (by kernel_rfl) (by kernel_rfl) (by kernel_rfl) (fun _ _ _ h => h) (Or.inl ⟨by rfl, fun w hSw => ?_⟩) hS ?_
        · go_split_ands
          go_simp
        try simp only [Act.put, List.setIfInBounds_toArray, List.set_cons_zero, List.set_cons_succ]
        refine wpAnyH_take (i := 3) (oi := { dst := some 27, op := Go.Op.call { callee := Go.Callee.builtin Go.Builtin.len, args := #[Go.Operand.tmp 26], argTypes := #[9] }, type := 3, pos := "way.go:29", after := #[{ on := 2, ground := Go.Ground.data }], guard := none }) (v := .int .i64 key.size) rfl (by kernel_rfl) (by kernel_rfl) (by kernel_rfl) (fun _ _ _ h => h) (Or.inl ⟨by rfl, fun w hSw => ?_⟩) hS ?_
        · go_split_ands
          go_simp
        try simp only [Act.put, List.setIfInBounds_toArray, List.set_cons_zero, List.set_cons_succ]
        refine wpAnyH_take (i := 4) (oi := { dst := some 28, op := Go.Op.move (Go.Operand.tmp 6), type := 9, pos := "way.go:29", after := #[], guard := none }) (v := .string rest) rfl (by kernel_rfl) (by kernel_rfl) (by kernel_rfl) (fun _ _ _ h => h) (Or.inl ⟨by rfl, fun w hSw => ?_⟩) hS ?_
        · go_split_ands
          go_simp
        try simp only [Act.put, List.setIfInBounds_toArray, List.set_cons_zero, List.set_cons_succ]
        refine wpAnyH_take (i := 5) (oi := { dst := some 29, op := Go.Op.call { callee := Go.Callee.builtin Go.Builtin.len, args := #[Go.Operand.tmp 28], argTypes := #[9] }, type := 3, pos := "way.go:29", after := #[{ on := 4, ground := Go.Ground.data }], guard := none }) (v := .int .i64 rest.size) rfl (by kernel_rfl) (by kernel_rfl) (by kernel_rfl) (fun _ _ _ h => h) (Or.inl ⟨by rfl, fun w hSw => ?_⟩) hS ?_
        · go_split_ands
          go_simp
        try simp only [Act.put, List.setIfInBounds_toArray, List.set_cons_zero, List.set_cons_succ]
        refine wpAnyH_take (i := 6) (oi := { dst := some 30, op := Go.Op.binOp Go.BinOp.sub 3 (Go.Operand.tmp 27) (Go.Operand.tmp 29) 3, type := 3, pos := "way.go:29", after := #[{ on := 3, ground := Go.Ground.data }, { on := 5, ground := Go.Ground.data }], guard := none }) (v := .int .i64 P) rfl (by kernel_rfl) (by kernel_rfl) (by kernel_rfl) (fun _ _ _ h => h) (Or.inl ⟨by rfl, fun w hSw => ?_⟩) hS ?_
        · go_split_ands
          go_simp
        try simp only [Act.put, List.setIfInBounds_toArray, List.set_cons_zero, List.set_cons_succ]
        refine wpAnyH_take (i := 7) (oi := { dst := some 31, op := Go.Op.slice 9 (Go.Operand.tmp 25) none (some (Go.Operand.tmp 30)) none, type := 9, pos := "way.go:29", after := #[{ on := 1, ground := Go.Ground.data }, { on := 6, ground := Go.Ground.data }], guard := none }) (v := .string (key.extract 0 P)) rfl (by kernel_rfl) (by kernel_rfl) (by kernel_rfl) (fun _ _ _ h => h) (Or.inl ⟨by rfl, fun w hSw => ?_⟩) hS ?_
        · go_split_ands
          go_simp
        try simp only [Act.put, List.setIfInBounds_toArray, List.set_cons_zero, List.set_cons_succ]
        refine wpAnyH_take (i := 8) (oi := { dst := some 32, op := Go.Op.move (Go.Operand.tmp 8), type := 86, pos := "way.go:29", after := #[], guard := none }) (v := .slice (some ⟨g, 0, none⟩) N c) rfl (by kernel_rfl) (by kernel_rfl) (by kernel_rfl) (fun _ _ _ h => h) (Or.inl ⟨by rfl, fun w hSw => ?_⟩) hS ?_
        · go_split_ands
          go_simp
        try simp only [Act.put, List.setIfInBounds_toArray, List.set_cons_zero, List.set_cons_succ]
        refine wpAnyH_take (i := 9) (oi := { dst := some 33, op := Go.Op.move (Go.Operand.tmp 9), type := 3, pos := "way.go:29", after := #[], guard := none }) (v := .int .i64 Q) rfl (by kernel_rfl) (by kernel_rfl) (by kernel_rfl) (fun _ _ _ h => h) (Or.inl ⟨by rfl, fun w hSw => ?_⟩) hS ?_
        · go_split_ands
          go_simp
        try simp only [Act.put, List.setIfInBounds_toArray, List.set_cons_zero, List.set_cons_succ]
        refine wpAnyH_take (i := 10) (oi := { dst := some 34, op := Go.Op.slice 86 (Go.Operand.tmp 32) none (some (Go.Operand.tmp 33)) none, type := 86, pos := "way.go:29", after := #[{ on := 8, ground := Go.Ground.data }, { on := 9, ground := Go.Ground.data }], guard := none }) (v := .slice (some ⟨g, 0, none⟩) Q c) rfl (by kernel_rfl) (by kernel_rfl) (by kernel_rfl) (fun _ _ _ h => h) (Or.inl ⟨by rfl, fun w hSw => ?_⟩) hS ?_
        · go_split_ands
          go_simp
        try simp only [Act.put, List.setIfInBounds_toArray, List.set_cons_zero, List.set_cons_succ]
        refine wpAnyH_take (i := 11) (oi := { dst := some 35, op := Go.Op.move (Go.Operand.tmp 8), type := 86, pos := "way.go:29", after := #[], guard := none }) (v := .slice (some ⟨g, 0, none⟩) N c) rfl (by kernel_rfl) (by kernel_rfl) (by kernel_rfl) (fun _ _ _ h => h) (Or.inl ⟨by rfl, fun w hSw => ?_⟩) hS ?_
        · go_split_ands
          go_simp
        try simp only [Act.put, List.setIfInBounds_toArray, List.set_cons_zero, List.set_cons_succ]
        refine wpAnyH_take (i := 12) (oi := { dst := some 36, op := Go.Op.move (Go.Operand.tmp 9), type := 3, pos := "way.go:29", after := #[], guard := none }) (v := .int .i64 Q) rfl (by kernel_rfl) (by kernel_rfl) (by kernel_rfl) (fun _ _ _ h => h) (Or.inl ⟨by rfl, fun w hSw => ?_⟩) hS ?_
        · go_split_ands
          go_simp
        try simp only [Act.put, List.setIfInBounds_toArray, List.set_cons_zero, List.set_cons_succ]
        refine wpAnyH_take (i := 13) (oi := { dst := some 37, op := Go.Op.slice 86 (Go.Operand.tmp 35) (some (Go.Operand.tmp 36)) none none, type := 86, pos := "way.go:29", after := #[{ on := 11, ground := Go.Ground.data }, { on := 12, ground := Go.Ground.data }], guard := none }) (v := .slice (some ⟨g, LO, none⟩) NQ CQ) rfl (by kernel_rfl) (by kernel_rfl) (by kernel_rfl) (fun _ _ _ h => h) (Or.inl ⟨by rfl, fun w hSw => ?_⟩) hS ?_
        · go_split_ands
          go_simp
          all_goals exact ⟨N4.out, HNQ.out.symm, HCQ.out.symm⟩
        try simp only [Act.put, List.setIfInBounds_toArray, List.set_cons_zero, List.set_cons_succ]
        refine wpAnyH_take (i := 14) (oi := { dst := some 38, op := Go.Op.build 88 #[(0, Go.Operand.tmp 24), (1, Go.Operand.tmp 31), (2, Go.Operand.tmp 34), (3, Go.Operand.tmp 37)], type := 88, pos := "way.go:29", after := #[{ on := 0, ground := Go.Ground.data }, { on := 7, ground := Go.Ground.data }, { on := 10, ground := Go.Ground.data }, { on := 13, ground := Go.Ground.data }], guard := none }) (v := .agg #[.pointer (some ⟨b', 0, none⟩), .string (key.extract 0 P), .slice (some ⟨g, 0, none⟩) Q c, .slice (some ⟨g, LO, none⟩) NQ CQ]) rfl (by kernel_rfl) (by kernel_rfl) (by kernel_rfl) (fun _ _ _ h => h) (Or.inl ⟨by rfl, fun w hSw => ?_⟩) hS ?_
        · go_split_ands
          go_simp
        try simp only [Act.put, List.setIfInBounds_toArray, List.set_cons_zero, List.set_cons_succ]
        refine wpAnyH_ready (rs := [15]) (by kernel_rfl) (by simp) ?_
        refine AllReadyH.cons (o := { dst := some 11, op := Go.Op.alloc 88, type := 0, pos := "way.go:29", after := #[], guard := none }) rfl (fun K hK => ?_) AllReadyH.nil
        go_simp
        refine hK.out _ _ trivial (fun _ => ?_)
        clear hK K hS
        try simp only [Act.put, List.setIfInBounds_toArray, List.set_cons_zero, List.set_cons_succ]
        have hS : True := trivial
        refine wpAnyH_ready (rs := [16]) (by kernel_rfl) (by simp) ?_
        refine AllReadyH.cons (o := { dst := none, op := Go.Op.store 88 (Go.Operand.tmp 11) (Go.Operand.tmp 38), type := 0, pos := "way.go:29", after := #[{ on := 15, ground := Go.Ground.data }, { on := 14, ground := Go.Ground.data }, { on := 0, ground := Go.Ground.phase }, { on := 1, ground := Go.Ground.phase }, { on := 2, ground := Go.Ground.phase }, { on := 3, ground := Go.Ground.phase }, { on := 4, ground := Go.Ground.phase }, { on := 5, ground := Go.Ground.phase }, { on := 6, ground := Go.Ground.phase }, { on := 7, ground := Go.Ground.phase }, { on := 8, ground := Go.Ground.phase }, { on := 9, ground := Go.Ground.phase }, { on := 10, ground := Go.Ground.phase }, { on := 11, ground := Go.Ground.phase }, { on := 12, ground := Go.Ground.phase }, { on := 13, ground := Go.Ground.phase }, { on := 14, ground := Go.Ground.phase }, { on := 15, ground := Go.Ground.phase }], guard := none }) rfl (fun K hK => ?_) AllReadyH.nil
        go_simp
        refine hK.out _ _ trivial (fun _ => ?_)
        clear hK K hS
        try simp only [Act.put, List.setIfInBounds_toArray, List.set_cons_zero, List.set_cons_succ]
        have hS : True := trivial
        refine wpAnyH_done (by kernel_rfl) ?_ _

        have hBS := ((Below.refl _ w2).alloc (Nat.le_refl _) (.cells #[.pointer (some ⟨b', 0, none⟩), .string (key.extract 0 P), .slice (some ⟨g, 0, none⟩) Q c, .slice (some ⟨g, LO, none⟩) NQ CQ] 88)).drew
        have bS := (Blk.new w2 88 #[.pointer (some ⟨b', 0, none⟩), .string (key.extract 0 P), .slice (some ⟨g, 0, none⟩) Q c, .slice (some ⟨g, LO, none⟩) NQ CQ]).below (Below.refl _ (w2.alloc (.cells #[.pointer (some ⟨b', 0, none⟩), .string (key.extract 0 P), .slice (some ⟨g, 0, none⟩) Q c, .slice (some ⟨g, LO, none⟩) NQ CQ] 88))).drew
        have hB13 := HB1.out.trans ((hB2.trans (hBS.mono hB2.size)).mono HB1.out.size)
        have HK3 := Lib.hid (hHK.out.below (hB2.trans (hBS.mono hB2.size)))
        have HB3 := Lib.hid (HB.out.trans (hB13.mono HB.out.size))
        have HR3 := Lib.hid (own_keep HR.out (Keep.of_below (X := []) hB13) (by simp) : WayR w.heap.size _ u5 L)
        have HL3 := Lib.hid (fun c hc => (HL.out c hc).below hB13)
        have HRB := Lib.hid (hHr.out.stay hB13)
        have HS := Lib.hid bS
        have HRL := Lib.hid (fun g (hg : u5.ownBlock = some g) => Nat.lt_of_lt_of_le (HRL0.out g hg) (Nat.le_trans HB1.out.size hB2.size))
        have hNS : w.heap.size ≤ w2.heap.size := (HB.out.trans ((HB1.out.trans (hB2.mono HB1.out.size)).mono HB.out.size)).size
        clear hBS bS hB13 HB HR HL hHr hHK HB1 hB2
        generalize (w2.alloc (.cells #[.pointer (some ⟨b', 0, none⟩), .string (key.extract 0 P), .slice (some ⟨g, 0, none⟩) Q c, .slice (some ⟨g, LO, none⟩) NQ CQ] 88)).drew = W3 at *
        generalize w2.heap.size = NS at *
        have d0 := HS.out.cell 0
        have d1 := HS.out.cell 1
        have d2 := HS.out.cell 2
        have d3 := HS.out.cell 3
        cases F with
        | false =>
          have hpos : posO t'.kids rest.data.toList = Q := HQ.out.symm
          have hKN : bs.length = N := HN.out.symm
          have HLS := Lib.hid (by
            have h := HK3.out.part 0 Q c (by rw [hKN]; omega)
            have e : lessS ⟨t', pre, rest.data.toList⟩ = (t'.kids.drop 0).take Q := by unfold lessS; rw [hpos]; rfl
            rw [e]; exact h : SlK W3 (.slice (some ⟨g, 0, none⟩) Q c) (lessS ⟨t', pre, rest.data.toList⟩))
          have HMO := Lib.hid (by
            have e : moreS ⟨t', pre, rest.data.toList⟩ = (t'.kids.drop Q).take NQ := by
              unfold moreS
              simp only
              rw [← HF.out, hpos, HNQ.out]
              rw [List.take_of_length_le (by rw [List.length_drop, ← HK3.out.len]; omega)]
              rfl
            rw [e]
            by_cases hcQ : c = Q
            · have h := HK3.out.part 0 0 CQ (by omega)
              have h0 : LO = 0 := by rw [HLO.out, if_pos hcQ]
              have h1 : NQ = 0 := by rw [HNQ.out]; omega
              rw [h0, h1, List.take_zero]
              rwa [List.take_zero] at h
            · have h0 : LO = Q := by rw [HLO.out, if_neg hcQ]
              have h := HK3.out.part Q NQ CQ (by rw [hKN, HNQ.out]; omega)
              rw [h0]; exact h : SlK W3 (.slice (some ⟨g, LO, none⟩) NQ CQ) (moreS ⟨t', pre, rest.data.toList⟩))
          have HST := Lib.hid (hW.out _ (WayS.stop HF.out.symm))
          obtain ⟨W4, hW4⟩ : ∃ W4, W4 = W3 := ⟨_, rfl⟩
          rw [← hW4] at HR3 HL3 HRB HB3 HLS HMO HS d0 d1 d2 d3 ⊢
          have HR4 := HR3
          have HL4 := HL3
          have HRB4 := HRB
          have HB4 := HB3
          clear hW4 HR3 HL3 HRB HB3 HK3 hpos hKN hW
          obtain ⟨C, hC⟩ : ∃ C : StC, C = ⟨⟨t', pre, rest.data.toList⟩, b', key.extract 0 P, .slice (some ⟨g, 0, none⟩) Q c, .slice (some ⟨g, LO, none⟩) NQ CQ⟩ := ⟨_, rfl⟩
          have HC := Lib.hid hC
          have hbC := (Below.refl _ W4).alloc (Nat.le_refl _) (.cells #[.pointer (some ⟨b', 0, none⟩), .string (key.extract 0 P), .slice (some ⟨g, 0, none⟩) Q c, .slice (some ⟨g, LO, none⟩) NQ CQ] 88)
          have hrow : (W4.alloc (.cells #[.pointer (some ⟨b', 0, none⟩), .string (key.extract 0 P), .slice (some ⟨g, 0, none⟩) Q c, .slice (some ⟨g, LO, none⟩) NQ CQ] 88)).ownsRow w.heap.size 88 4 u5 L.length (L.flatMap StC.cells) := own_keep HR4.out (Keep.of_below (X := []) hbC) (by simp)
          have hnb : (W4.alloc (.cells #[.pointer (some ⟨b', 0, none⟩), .string (key.extract 0 P), .slice (some ⟨g, 0, none⟩) Q c, .slice (some ⟨g, LO, none⟩) NQ CQ] 88)).heap[W4.heap.size]? = some (.cells #[.pointer (some ⟨b', 0, none⟩), .string (key.extract 0 P), .slice (some ⟨g, 0, none⟩) Q c, .slice (some ⟨g, LO, none⟩) NQ CQ] 88 (0, 0)) := heap_alloc_new W4 _
          have hsz := (HB4.out.trans (hbC.mono HB4.out.size)).size
          have HBC := Lib.hid hbC
          clear hC hbC
          go_wp2_with (at_builtin; refine wpList_append_own_at _ rfl _ _ 85 rfl w.heap.size 88 i88 _ 4 72 Try.underlying85 hi88 hy880 hy881 hy882 zsz88 (by decide) _ _ _ rfl hrow ⟨W4.heap.size, 0, none⟩ 1 1 [.pointer (some ⟨b', 0, none⟩), .string (key.extract 0 P), .slice (some ⟨g, 0, none⟩) Q c, .slice (some ⟨g, LO, none⟩) NQ CQ] rfl rfl (World.news_of_block hnb) (by simp [Value.oneCell']) (by unfold maxLen; omega) (by omega) hsz ?_; intro v' wa hown' hgrow hnil hat)
          replace hgrow : (W4.alloc (.cells #[.pointer (some ⟨b', 0, none⟩), .string (key.extract 0 P), .slice (some ⟨g, 0, none⟩) Q c, .slice (some ⟨g, LO, none⟩) NQ CQ] 88)).grownBy wa u5.ownBlock := hgrow
          have kk := keep_grown hgrow
          have hX : ∀ x ∈ u5.ownBlock.toList, ∀ ty cs, Blk (W4.alloc (.cells #[.pointer (some ⟨b', 0, none⟩), .string (key.extract 0 P), .slice (some ⟨g, 0, none⟩) Q c, .slice (some ⟨g, LO, none⟩) NQ CQ] 88)) x ty cs → ty ≠ 132 ∧ ty ≠ 24 := fun x hx ty cs hB => by
            obtain ⟨cs', hb⟩ := own_cells hrow x (by simpa using hx)
            unfold Blk at hB
            rw [hb] at hB
            simp at hB
            rw [← hB.2]
            exact ⟨by decide, by decide⟩
          have hRow : WayR w.heap.size wa v' (L ++ [C]) := by
            unfold WayR
            rw [List.length_append, List.flatMap_append, HC.out]
            exact hown'
          have hAll : ∀ c ∈ L ++ [C], StOK wa c := fun c hc => by
            rcases List.mem_append.1 hc with h | h
            · exact ((HL4.out c h).below HBC.out).kept kk hX
            · rw [List.mem_singleton] at h
              subst h
              rw [HC.out]
              exact (StOK.below ⟨HKP.out, HRB4.out, HCN.out, HLS.out, HMO.out⟩ HBC.out).kept kk hX
          have hBf := (HB4.out.trans (HBC.out.mono HB4.out.size)).grown hgrow hsz (own_ge hrow)
          refine ⟨⟨L ++ [C], rest, rfl, hrest, hRow, hAll, .off (Lib.hid ?_), hBf⟩, ?_⟩
          · rw [List.map_append, HC.out]; exact HST.out
          · simp [wayLeft]


        | true =>
          have hpos : posO t'.kids rest.data.toList = Q := HQ.out.symm
          have hKN : bs.length = N := HN.out.symm
          have HLS := Lib.hid (by
            have h := HK3.out.part 0 Q c (by rw [hKN]; omega)
            have e : lessS ⟨t', pre, rest.data.toList⟩ = (t'.kids.drop 0).take Q := by unfold lessS; rw [hpos]; rfl
            rw [e]; exact h : SlK W3 (.slice (some ⟨g, 0, none⟩) Q c) (lessS ⟨t', pre, rest.data.toList⟩))
          obtain ⟨hQN, hpf⟩ := isO_at (t := t') (r := rest.data.toList) HF.out.symm
          rw [hpos] at hQN hpf
          have hQN' : Q < N := by rw [← hKN, HK3.out.len]; exact hQN
          obtain ⟨k, hkk⟩ : ∃ k, k = rat t'.kids Q := ⟨_, rfl⟩
          rw [← hkk] at hpf
          have hkm : t'.kids[Q]? = some k := by rw [hkk]; exact rat_get hQN
          have hmem : k ∈ t'.kids := List.mem_of_getElem? hkm
          obtain ⟨r', hr'⟩ := hpf
          obtain ⟨g', c9, e9, c0⟩ := HK3.out.own.at_ Q (by rw [hKN]; exact hQN')
          simp only [Value.slice.injEq, Option.some.injEq, Addr.mk.injEq] at e9
          obtain ⟨⟨rfl, -, -⟩, -, -⟩ := e9
          obtain ⟨b1, hb1⟩ : ∃ b1, b1 = bs.getD Q 0 := ⟨_, rfl⟩
          have hb10 : bs[Q]? = some b1 := by rw [hb1, List.getD_eq_getElem?_getD, List.getElem?_eq_getElem (by rw [hKN]; exact hQN')]; rfl
          rw [← hb1] at c0
          unfold at0 at c0
          have hrk : RadT W3 b1 k := HK3.out.rad Q b1 k hb10 hkm
          obtain ⟨Q1, hQ1⟩ : ∃ Q1, Q1 = Q + 1 := ⟨_, rfl⟩
          obtain ⟨NQ2, hNQ2⟩ : ∃ NQ2, NQ2 = N - Q1 := ⟨_, rfl⟩
          obtain ⟨CQ2, hCQ2⟩ : ∃ CQ2, CQ2 = c - Q1 := ⟨_, rfl⟩
          obtain ⟨LO2, hLO2⟩ : ∃ LO2, LO2 = if c = Q1 then 0 else Q1 := ⟨_, rfl⟩
          have N5 := Lib.hid (show (if c = Q1 then some (⟨g, 0, none⟩ : Addr) else some ⟨g, Q1, none⟩) = some ⟨g, LO2, none⟩ by rw [hLO2]; split <;> rfl)
          have P1 : IntKind.i64.wrap ((Q : Int) + 1) = (Q1 : Int) := by rw [IntWalk.i64_in _ (by omega)]; omega
          have P2 : (Q : Int) < (N : Int) := by omega
          have P3 : (Q1 : Int) ≤ (N : Int) := by omega
          have P4 : (Q1 : Int) ≤ (c : Int) := by omega
          have HMO := Lib.hid (by
            have e : moreS ⟨t', pre, rest.data.toList⟩ = (t'.kids.drop Q1).take NQ2 := by
              unfold moreS
              simp only
              rw [← HF.out, hpos, hNQ2, hQ1]
              rw [List.take_of_length_le (by rw [List.length_drop, ← HK3.out.len]; omega)]
              rfl
            rw [e]
            by_cases hcQ : c = Q1
            · have h := HK3.out.part 0 0 CQ2 (by omega)
              have h0 : LO2 = 0 := by rw [hLO2, if_pos hcQ]
              have h1 : NQ2 = 0 := by rw [hNQ2]; omega
              rw [h0, h1, List.take_zero]
              rwa [List.take_zero] at h
            · have h0 : LO2 = Q1 := by rw [hLO2, if_neg hcQ]
              have h := HK3.out.part Q1 NQ2 CQ2 (by rw [hKN, hNQ2]; omega)
              rw [h0]; exact h : SlK W3 (.slice (some ⟨g, LO2, none⟩) NQ2 CQ2) (moreS ⟨t', pre, rest.data.toList⟩))
          have hkd := HCN.out.kd k hmem
          have hlpos : 0 < k.lab.length := by
            cases hl : k.lab with
            | nil => exact absurd hl hkd.1
            | cons x s => simp
          have HCK := Lib.hid (⟨HCN.out.kids k hmem, HSH.out.kid hmem⟩ : Can k ∧ Shrt 1000 k)
          have hlk := HSH.out.lab HCN.out hmem
          have HST := Lib.hid (fun S hS => hW.out (⟨t', pre, rest.data.toList⟩ :: S) (WayS.go HF.out.symm (by rw [hpos]; exact hkk) hr'.symm hS))
          have HQ1 := Lib.hid (⟨hNQ2, hCQ2, hLO2⟩ : NQ2 = N - Q1 ∧ CQ2 = c - Q1 ∧ LO2 = if c = Q1 then 0 else Q1)
          have HR' := Lib.hid hr'
          have f3 := HS.out.frozen 3
          obtain ⟨lab, hlab, kl⟩ := label_any _ b1 k W3 hrk
          have HLAB := Lib.hid hlab
          have hlz : lab.size = k.lab.length := by rw [← hlab]; exact (size_of lab).symm
          have hrz : (Tw.restS rest lab).size + k.lab.length = rest.size := by
            have e1 := restS_at hlab hr'.symm
            have e2 := congrArg List.length hr'
            rw [List.length_append, size_of] at e2
            rw [← size_of (Tw.restS rest lab), e1]
            omega
          have HRS := Lib.hid (restS_at hlab hr'.symm)
          have hcl : key.size ≤ 1000 := hk
          clear hQ1 hNQ2 hCQ2 hLO2 hb1 hb10 hkm hkk hr' hkd hW hQN hlab hmem
          go_upto_region 10 with (fail)
          refine wp_region_late (S := fun w' => w'.cell? ⟨g, Q, none⟩ = some (.pointer (some ⟨b1, 0, none⟩))) (st := 10) (by kernel_rfl) ?_
          have hS : (fun w' : World => w'.cell? ⟨g, Q, none⟩ = some (.pointer (some ⟨b1, 0, none⟩))) W3.drew := c0
          refine wpAnyL_take0 (i := 0) (oi := { dst := some 40, op := Go.Op.move (Go.Operand.tmp 8), type := 86, pos := "way.go:32", after := #[], guard := none }) (v := .slice (some ⟨g, 0, none⟩) N c) rfl (by kernel_rfl) (by kernel_rfl) (by kernel_rfl) (by kernel_rfl) (fun _ _ _ h => h) hS (Or.inl ⟨by rfl, fun w hSw => ?_⟩) ?_
          · go_split_ands
            go_simp
          try simp only [Act.put, List.setIfInBounds_toArray, List.set_cons_zero, List.set_cons_succ]
          refine wpAnyL_take0 (i := 1) (oi := { dst := some 41, op := Go.Op.move (Go.Operand.tmp 9), type := 3, pos := "way.go:32", after := #[], guard := none }) (v := .int .i64 Q) rfl (by kernel_rfl) (by kernel_rfl) (by kernel_rfl) (by kernel_rfl) (fun _ _ _ h => h) hS (Or.inl ⟨by rfl, fun w hSw => ?_⟩) ?_
          · go_split_ands
            go_simp
          try simp only [Act.put, List.setIfInBounds_toArray, List.set_cons_zero, List.set_cons_succ]
          refine wpAnyL_take0 (i := 2) (oi := { dst := some 42, op := Go.Op.indexAddr 86 (Go.Operand.tmp 40) (Go.Operand.tmp 41), type := 0, pos := "way.go:32", after := #[{ on := 0, ground := Go.Ground.data }, { on := 1, ground := Go.Ground.data }], guard := none }) (v := .pointer (some ⟨g, Q, none⟩)) rfl (by kernel_rfl) (by kernel_rfl) (by kernel_rfl) (by kernel_rfl) (fun _ _ _ h => h) hS (Or.inl ⟨by rfl, fun w hSw => ?_⟩) ?_
          · go_split_ands
            go_simp
          try simp only [Act.put, List.setIfInBounds_toArray, List.set_cons_zero, List.set_cons_succ]
          refine wpAnyL_take (i := 3) (oi := { dst := some 43, op := Go.Op.load 24 (Go.Operand.tmp 42), type := 24, pos := "way.go:32", after := #[{ on := 2, ground := Go.Ground.data }], guard := none }) (v := .pointer (some ⟨b1, 0, none⟩)) rfl (by kernel_rfl) (by kernel_rfl) (by kernel_rfl) (by kernel_rfl) (fun _ _ _ h => h) hS (Or.inl ⟨by rfl, fun w hSw => ?_⟩) ?_
          · go_split_ands
            go_simp
          try simp only [Act.put, List.setIfInBounds_toArray, List.set_cons_zero, List.set_cons_succ]
          refine wpAnyL_take0 (i := 4) (oi := { dst := some 44, op := Go.Op.move (Go.Operand.tmp 8), type := 86, pos := "way.go:32", after := #[], guard := none }) (v := .slice (some ⟨g, 0, none⟩) N c) rfl (by kernel_rfl) (by kernel_rfl) (by kernel_rfl) (by kernel_rfl) (fun _ _ _ h => h) hS (Or.inl ⟨by rfl, fun w hSw => ?_⟩) ?_
          · go_split_ands
            go_simp
          try simp only [Act.put, List.setIfInBounds_toArray, List.set_cons_zero, List.set_cons_succ]
          refine wpAnyL_take0 (i := 5) (oi := { dst := some 45, op := Go.Op.move (Go.Operand.tmp 9), type := 3, pos := "way.go:32", after := #[], guard := none }) (v := .int .i64 Q) rfl (by kernel_rfl) (by kernel_rfl) (by kernel_rfl) (by kernel_rfl) (fun _ _ _ h => h) hS (Or.inl ⟨by rfl, fun w hSw => ?_⟩) ?_
          · go_split_ands
            go_simp
          try simp only [Act.put, List.setIfInBounds_toArray, List.set_cons_zero, List.set_cons_succ]
          refine wpAnyL_take0 (i := 6) (oi := { dst := some 46, op := Go.Op.binOp Go.BinOp.add 3 (Go.Operand.tmp 45) (Go.Operand.const (Go.Value.int Go.IntKind.i64 1)) 3, type := 3, pos := "way.go:32", after := #[{ on := 5, ground := Go.Ground.data }], guard := none }) (v := .int .i64 Q1) rfl (by kernel_rfl) (by kernel_rfl) (by kernel_rfl) (by kernel_rfl) (fun _ _ _ h => h) hS (Or.inl ⟨by rfl, fun w hSw => ?_⟩) ?_
          · go_split_ands
            go_simp
          try simp only [Act.put, List.setIfInBounds_toArray, List.set_cons_zero, List.set_cons_succ]
          refine wpAnyL_take0 (i := 7) (oi := { dst := some 47, op := Go.Op.slice 86 (Go.Operand.tmp 44) (some (Go.Operand.tmp 46)) none none, type := 86, pos := "way.go:32", after := #[{ on := 4, ground := Go.Ground.data }, { on := 6, ground := Go.Ground.data }], guard := none }) (v := .slice (some ⟨g, LO2, none⟩) NQ2 CQ2) rfl (by kernel_rfl) (by kernel_rfl) (by kernel_rfl) (by kernel_rfl) (fun _ _ _ h => h) hS (Or.inl ⟨by rfl, fun w hSw => ?_⟩) ?_
          · go_split_ands
            go_simp
            all_goals exact ⟨N5.out, HQ1.out.1.symm, HQ1.out.2.1.symm⟩
          try simp only [Act.put, List.setIfInBounds_toArray, List.set_cons_zero, List.set_cons_succ]
          refine wpAnyL_take0 (i := 8) (oi := { dst := some 7, op := Go.Op.assign (Go.Operand.tmp 43), type := 24, pos := "way.go:32", after := #[{ on := 3, ground := Go.Ground.data }, { on := 0, ground := Go.Ground.phase }, { on := 1, ground := Go.Ground.phase }, { on := 2, ground := Go.Ground.phase }, { on := 3, ground := Go.Ground.phase }, { on := 4, ground := Go.Ground.textOnly Go.Departure.lateStores }, { on := 5, ground := Go.Ground.textOnly Go.Departure.lateStores }, { on := 6, ground := Go.Ground.textOnly Go.Departure.lateStores }, { on := 7, ground := Go.Ground.textOnly Go.Departure.lateStoresUnsure }], guard := none }) (v := .pointer (some ⟨b1, 0, none⟩)) rfl (by kernel_rfl) (by kernel_rfl) (by kernel_rfl) (by kernel_rfl) (fun _ _ _ h => h) hS (Or.inl ⟨by rfl, fun w hSw => ?_⟩) ?_
          · go_split_ands
            go_simp
          try simp only [Act.put, List.setIfInBounds_toArray, List.set_cons_zero, List.set_cons_succ]
          refine wpAnyL_take0 (i := 9) (oi := { dst := some 48, op := Go.Op.fieldAddr 88 (Go.Operand.tmp 11) 3, type := 0, pos := "way.go:32", after := #[{ on := 0, ground := Go.Ground.phase }, { on := 1, ground := Go.Ground.phase }, { on := 2, ground := Go.Ground.phase }, { on := 3, ground := Go.Ground.phase }, { on := 4, ground := Go.Ground.phase }, { on := 5, ground := Go.Ground.phase }, { on := 6, ground := Go.Ground.phase }, { on := 7, ground := Go.Ground.phase }, { on := 8, ground := Go.Ground.phase }], guard := none }) (v := .pointer (some ⟨NS, 3, none⟩)) rfl (by kernel_rfl) (by kernel_rfl) (by kernel_rfl) (by kernel_rfl) (fun _ _ _ h => h) hS (Or.inl ⟨by rfl, fun w hSw => ?_⟩) ?_
          · go_split_ands
            go_simp
          try simp only [Act.put, List.setIfInBounds_toArray, List.set_cons_zero, List.set_cons_succ]
          refine wpAnyL_ready (rs := [10]) (by kernel_rfl) (by simp) ?_
          refine AllReadyL.cons (o := { dst := none, op := Go.Op.store 86 (Go.Operand.tmp 48) (Go.Operand.tmp 47), type := 0, pos := "way.go:32", after := #[{ on := 9, ground := Go.Ground.data }, { on := 7, ground := Go.Ground.data }, { on := 8, ground := Go.Ground.chain }, { on := 0, ground := Go.Ground.phase }, { on := 1, ground := Go.Ground.phase }, { on := 2, ground := Go.Ground.phase }, { on := 3, ground := Go.Ground.phase }, { on := 4, ground := Go.Ground.phase }, { on := 5, ground := Go.Ground.phase }, { on := 6, ground := Go.Ground.phase }, { on := 7, ground := Go.Ground.phase }, { on := 8, ground := Go.Ground.phase }], guard := none }) rfl (fun K hK => ?_) AllReadyL.nil
          go_simp
          refine hK.out _ _ (late_no (by kernel_rfl)) ?_
          clear hK K
          try simp only [Act.put, List.setIfInBounds_toArray, List.set_cons_zero, List.set_cons_succ]
          refine wpAnyL_done (by kernel_rfl) ?_ _
          have hk4 : Keep [NS] W3 (W3.setCell ⟨NS, 3, none⟩ (.slice (some ⟨g, LO2, none⟩) NQ2 CQ2)).drew := Keep.trans'' ((Keep.refl [NS] W3).setCell (p := ⟨NS, 3, none⟩) (by simp) _) (Keep.of_below (Below.refl _ _).drew)
          have hX4 : ∀ x ∈ [NS], ∀ ty cs, Blk W3 x ty cs → ty ≠ 132 ∧ ty ≠ 24 := fun x hx ty cs hB => by
            rw [List.mem_singleton] at hx
            subst hx
            have h8 := HS.out
            unfold Blk at hB h8
            rw [h8] at hB
            simp at hB
            rw [← hB.2]
            exact ⟨by decide, by decide⟩
          have HR4 := Lib.hid (own_keep HR3.out hk4 (fun x hx e => by
            rw [List.mem_singleton] at hx
            subst hx
            exact absurd (HRL.out _ e) (by omega)) : WayR w.heap.size _ u5 L)
          have HL4 := Lib.hid (fun c hc => (HL3.out c hc).kept hk4 hX4)
          have HRB4 := Lib.hid (HRB.out.kept hk4 hX4)
          have HRK4 := Lib.hid (hrk.kept hk4 hX4)
          have HLS := Lib.hid (HLS.out.kept hk4 hX4)
          have HMO := Lib.hid (HMO.out.kept hk4 hX4)
          have HB4 := Lib.hid ((HB3.out.setCell (p := ⟨NS, 3, none⟩) hNS (.slice (some ⟨g, LO2, none⟩) NQ2 CQ2)).drew)
          have bS4 := ((HS.out.set_ 3 (.slice (some ⟨g, LO2, none⟩) NQ2 CQ2)).below (Below.refl _ _).drew)
          have hkl4 : Calls Try.prog 67 #[at0 b1] (W3.setCell ⟨NS, 3, none⟩ (.slice (some ⟨g, LO2, none⟩) NQ2 CQ2)).drew fun e w' => e = .returned (.string lab) ∧ (W3.setCell ⟨NS, 3, none⟩ (.slice (some ⟨g, LO2, none⟩) NQ2 CQ2)).drew = w' := by
            obtain ⟨lab2, hlab2, kl2⟩ := label_any _ b1 k _ HRK4.out
            have e : lab2 = lab := bytes_ext (by rw [hlab2, HLAB.out])
            rw [← e]
            exact kl2 _ (Below.refl _ _)
          have d0 := bS4.cell 0
          have d1 := bS4.cell 1
          have d2 := bS4.cell 2
          have d3 := bS4.cell 3
          have kcut := fun w' => Tw.cut_any rest lab w' (by unfold maxLen; omega) (by unfold maxLen; omega)
          have HZ := Lib.hid (⟨hrz, hlpos⟩ : (Tw.restS rest lab).size + k.lab.length = rest.size ∧ 0 < k.lab.length)
          unfold at0 at hkl4
          clear HR3 HL3 HRB HB3 HK3 hpos hKN hk4 hX4 hrk HS c0 f3 bS4 hrz hlpos kl N5
          generalize (W3.setCell ⟨NS, 3, none⟩ (.slice (some ⟨g, LO2, none⟩) NQ2 CQ2)).drew = W4 at *
          generalize Tw.restS rest lab = rs at *
          generalize Tw.bgB rest lab = bb at *
          go_wp2_with fail
          refine hkl4.mono ?_
          rintro e w5 ⟨rfl, rfl⟩
          go_wp2_with fail
          refine (kcut _).mono ?_
          rintro e w6 ⟨rfl, rfl⟩
          clear kcut hkl4
          obtain ⟨C, hC⟩ : ∃ C : StC, C = ⟨⟨t', pre, rest.data.toList⟩, b', key.extract 0 P, .slice (some ⟨g, 0, none⟩) Q c, .slice (some ⟨g, LO2, none⟩) NQ2 CQ2⟩ := ⟨_, rfl⟩
          have HC := Lib.hid hC
          have hbC := (Below.refl _ W4).alloc (Nat.le_refl _) (.cells #[.pointer (some ⟨b', 0, none⟩), .string (key.extract 0 P), .slice (some ⟨g, 0, none⟩) Q c, .slice (some ⟨g, LO2, none⟩) NQ2 CQ2] 88)
          have hrow : (W4.alloc (.cells #[.pointer (some ⟨b', 0, none⟩), .string (key.extract 0 P), .slice (some ⟨g, 0, none⟩) Q c, .slice (some ⟨g, LO2, none⟩) NQ2 CQ2] 88)).ownsRow w.heap.size 88 4 u5 L.length (L.flatMap StC.cells) := own_keep HR4.out (Keep.of_below (X := []) hbC) (by simp)
          have hnb : (W4.alloc (.cells #[.pointer (some ⟨b', 0, none⟩), .string (key.extract 0 P), .slice (some ⟨g, 0, none⟩) Q c, .slice (some ⟨g, LO2, none⟩) NQ2 CQ2] 88)).heap[W4.heap.size]? = some (.cells #[.pointer (some ⟨b', 0, none⟩), .string (key.extract 0 P), .slice (some ⟨g, 0, none⟩) Q c, .slice (some ⟨g, LO2, none⟩) NQ2 CQ2] 88 (0, 0)) := heap_alloc_new W4 _
          have hsz := (HB4.out.trans (hbC.mono HB4.out.size)).size
          have HBC := Lib.hid hbC
          clear hC hbC
          go_wp2_with (at_builtin; refine wpList_append_own_at _ rfl _ _ 85 rfl w.heap.size 88 i88 _ 4 72 Try.underlying85 hi88 hy880 hy881 hy882 zsz88 (by decide) _ _ _ rfl hrow ⟨W4.heap.size, 0, none⟩ 1 1 [.pointer (some ⟨b', 0, none⟩), .string (key.extract 0 P), .slice (some ⟨g, 0, none⟩) Q c, .slice (some ⟨g, LO2, none⟩) NQ2 CQ2] rfl rfl (World.news_of_block hnb) (by simp [Value.oneCell']) (by unfold maxLen; omega) (by omega) hsz ?_; intro v' wa hown' hgrow hnil hat)
          replace hgrow : (W4.alloc (.cells #[.pointer (some ⟨b', 0, none⟩), .string (key.extract 0 P), .slice (some ⟨g, 0, none⟩) Q c, .slice (some ⟨g, LO2, none⟩) NQ2 CQ2] 88)).grownBy wa u5.ownBlock := hgrow
          have kk := keep_grown hgrow
          have hX : ∀ x ∈ u5.ownBlock.toList, ∀ ty cs, Blk (W4.alloc (.cells #[.pointer (some ⟨b', 0, none⟩), .string (key.extract 0 P), .slice (some ⟨g, 0, none⟩) Q c, .slice (some ⟨g, LO2, none⟩) NQ2 CQ2] 88)) x ty cs → ty ≠ 132 ∧ ty ≠ 24 := fun x hx ty cs hB => by
            obtain ⟨cs', hb⟩ := own_cells hrow x (by simpa using hx)
            unfold Blk at hB
            rw [hb] at hB
            simp at hB
            rw [← hB.2]
            exact ⟨by decide, by decide⟩
          have hRow : WayR w.heap.size wa v' (L ++ [C]) := by
            unfold WayR
            rw [List.length_append, List.flatMap_append, HC.out]
            exact hown'
          have hAll : ∀ c ∈ L ++ [C], StOK wa c := fun c hc => by
            rcases List.mem_append.1 hc with h | h
            · exact ((HL4.out c h).below HBC.out).kept kk hX
            · rw [List.mem_singleton] at h
              subst h
              rw [HC.out]
              exact (StOK.below ⟨HKP.out, HRB4.out, HCN.out, HLS.out, HMO.out⟩ HBC.out).kept kk hX
          have hBf := (HB4.out.trans (HBC.out.mono HB4.out.size)).grown hgrow hsz (own_ge hrow)
          have hz := HZ.out
          refine ⟨⟨L ++ [C], rs, rfl, by omega, hRow, hAll, .on (pre := pre ++ k.lab) ((HRK4.out.stay HBC.out).kept kk hX) HCK.out.1 HCK.out.2 ?_ ?_ (Lib.hid ?_), hBf⟩, ?_⟩
          · rw [HRS.out, List.append_assoc, HR'.out]; exact HPRE.out
          · rw [List.length_append, List.length_singleton]; omega
          · intro S hS
            rw [HRS.out] at hS
            rw [List.map_append, List.append_assoc, HC.out]
            exact HST.out S hS
          · simp only [wayLeft]; omega


end Go.Proofs.Ytimhdegdmdilaaa
/- A block that is just these cells, and what the rounds of an iterator keep. -/
namespace Go.Proofs.Ytimhdegdmdilaaa.Its
open Go.RowKit Go.Shelf
set_option linter.unusedVariables false
set_option maxRecDepth 100000
set_option maxRecDepth 100000
set_option linter.unusedSimpArgs false
set_option linter.unnecessarySimpa false
attribute [local go_sem] Oper.semAt_some

/-- block g is just these cells, none of them frozen -/
def CBlk (w : World) (g : Nat) (t : TypeId) (cs : Array Value) : Prop := w.heap[g]? = some (.cells cs t (0, 0))
theorem CBlk.lt {w : World} {g : Nat} {t : TypeId} {cs : Array Value} (h : CBlk w g t cs) : g < w.heap.size := by
  rcases Nat.lt_or_ge g w.heap.size with hlt | hge
  · exact hlt
  · unfold CBlk at h; rw [Array.getElem?_eq_none hge] at h; cases h
theorem CBlk.cell {w : World} {g : Nat} {t : TypeId} {cs : Array Value} (h : CBlk w g t cs) (i : Nat) : w.cell? ⟨g, i, none⟩ = cs[i]? := cell_of_row w g i cs t (0, 0) h
theorem CBlk.frozen {w : World} {g : Nat} {t : TypeId} {cs : Array Value} (h : CBlk w g t cs) (i : Nat) : w.frozen? ⟨g, i, none⟩ = false := by
  unfold CBlk at h
  simp [World.frozen?, h]
theorem CBlk.new (w : World) (t : TypeId) (cs : Array Value) : CBlk (w.alloc (.cells cs t)) w.heap.size t cs := heap_alloc_new w _
theorem CBlk.alloc {w : World} {g : Nat} {t : TypeId} {cs : Array Value} (h : CBlk w g t cs) (o : Obj) : CBlk (w.alloc o) g t cs := (Below.heap_alloc w o g h.lt).trans h
theorem CBlk.below {w w' : World} {g : Nat} {t : TypeId} {cs : Array Value} {B : Nat} (h : CBlk w g t cs) (hb : Below B w w') (hg : g < B) : CBlk w' g t cs := (hb.block g hg).trans h

/-- what a round must keep: the block of the set that the iterator reads -/
def KpB (B : Nat) (W W' : World) : Prop := W'.heap[B]? = W.heap[B]?
theorem KpB_t {B : Nat} {X Y Z : World} (h : KpB B X Y) (k : KpB B Y Z) : KpB B X Z := Eq.trans k h
theorem KpB_b {B : Nat} {w : World} (hB : B < w.heap.size) (W : World) (l : Nat) (o o' : Obj) (hl : w.heap.size ≤ l) (h : W.heap[l]? = some o) (_ : o.isCells = false) (_ : o.isWalk = false) : KpB B W (W.putObj l o') :=
  World.putObj_heap_other (by omega)

end Go.Proofs.Ytimhdegdmdilaaa.Its
