/- What a node and all below it look like. -/
import Derived.Test.YtchimfgbdfmegaaGreatGal
import Derived.BigQuiet
import Derived.Deep.RegionHeld3
import Derived.Laws.BytesArg
import Derived.Test.YtchimfgbdfmegaaGreatGag
import Derived.Lib.ConvBytes
import Derived.Deep.AppendLies
namespace Go.Proofs.YtchimfgbdfmegaaGreat
open Go.RowKit Go.Lib
set_option linter.unusedVariables false
set_option linter.unusedSimpArgs false
set_option maxRecDepth 100000
attribute [local irreducible] cnt
/-- no more than the calls can tell -/
def FairR : RT → Prop
  | .no => True
  | .bucket L => L.length ≤ 800 ∧ ∀ p ∈ L, p.1.size ≤ 1000000 ∧ p.2.size ≤ 1000000
  | .inner P K => (∀ c p, P c = some p → p.1.size ≤ 1000000 ∧ p.2.size ≤ 1000000) ∧ ∀ c, c < 32 → FairR (K c)
theorem fair_kids {K : Nat → RT} (h : ∀ c, c < 32 → FairR (K c)) : ∀ t ∈ kidsR K, FairR t ∧ t.opt = some t := fun t ht => by
  obtain ⟨c, hc, e⟩ := fm_mem.1 ht
  have := h c hc
  cases hk : K c with
  | no => rw [hk] at e; simp [RT.opt] at e
  | bucket L => rw [hk] at e this; simp only [RT.opt, Option.some.injEq] at e; subst e; exact ⟨this, rfl⟩
  | inner P' K' => rw [hk] at e this; simp only [RT.opt, Option.some.injEq] at e; subst e; exact ⟨this, rfl⟩
theorem dataR_lt (P : Nat → Option Pr) : dataR P < 4294967296 := mask32 _
theorem nodesR_lt (K : Nat → RT) : nodesR K < 4294967296 := mask32 _
theorem kids_len (K : Nat → RT) : (kidsR K).length ≤ 32 := fm_len_le _ 32
/-- the parts of a node -/
def headR : RT → List Nat
  | .no => []
  | .bucket L => 1 :: twoB L.length
  | .inner P K => 0 :: (fourB (dataR P) ++ fourB (nodesR K))
def prsR : RT → List Pr
  | .no => []
  | .bucket L => L
  | .inner P K => fm P 32
def kidsOf : RT → List RT
  | .inner P K => kidsR K
  | _ => []
theorem encR_parts (d : Nat) (t : RT) : encR (d + 1) t = headR t ++ (pairsB (prsR t) ++ (kidsOf t).flatMap (encR d)) := by
  cases t with
  | no => rfl
  | bucket L => simp [encR, headR, prsR, kidsOf]
  | inner P K => simp [encR, headR, prsR, kidsOf]
/-- a node that there is -/
theorem NdR.parts {base : Nat} {w : World} {t : RT} {b : Nat} (h : NdR base w t b) (hf : FairR t) : ∃ ow bk d nn pv kv ks, NdV base w b ow bk d nn pv kv (prsR t) ks ∧ All2 (fun k t => NdR base w t k) ks (kidsOf t) ∧ headR t = headB bk (prsR t).length d nn ∧ (bk = true → ks = []) ∧ d < 4294967296 ∧ nn < 4294967296 ∧ (prsR t).length ≤ 800 ∧ ks.length ≤ 32 ∧ (∀ p ∈ prsR t, p.1.size ≤ 1000000 ∧ p.2.size ≤ 1000000) ∧ ∀ s ∈ kidsOf t, FairR s := by
  cases t with
  | no => exact h.elim
  | bucket L =>
    obtain ⟨ow, pv, kv, hN⟩ := h
    exact ⟨ow, true, 0, 0, pv, kv, [], hN, trivial, rfl, fun _ => rfl, by omega, by omega, hf.1, by simp, hf.2, fun s hs => by simp [kidsOf] at hs⟩
  | inner P K =>
    obtain ⟨ow, pv, kv, ks, hN, hA⟩ := h.view
    refine ⟨ow, false, _, _, pv, kv, ks, hN, hA, rfl, fun h => by simp at h, dataR_lt P, nodesR_lt K, Nat.le_trans (fm_len_le P 32) (by omega), by rw [all2_len hA]; exact kids_len K, fun p hp => ?_, fun s hs => (fair_kids hf.2 s hs).1⟩
    obtain ⟨c, hc, e⟩ := fm_mem.1 hp
    exact hf.1 c p e
theorem all2_mono {α β : Type} {R S : α → β → Prop} (h : ∀ a b, R a b → S a b) : ∀ {xs : List α} {ys : List β}, All2 R xs ys → All2 S xs ys
  | [], [], _ => trivial
  | [], _ :: _, h' => h'.elim
  | _ :: _, [], h' => h'.elim
  | x :: xs, y :: ys, h' => ⟨h _ _ h'.1, all2_mono h h'.2⟩
theorem take_len_le {α : Type} (f : α → List Nat) (xs : List α) (j : Nat) : ((xs.take j).flatMap f).length ≤ (xs.flatMap f).length := by
  conv => rhs; rw [← List.take_append_drop j xs, List.flatMap_append, List.length_append]
  omega
theorem flatM_take {α : Type} (f : α → List Nat) (xs : List α) (j : Nat) (h : j < xs.length) : (xs.take (j + 1)).flatMap f = (xs.take j).flatMap f ++ f xs[j] := by
  rw [List.take_succ_eq_append_getElem h, List.flatMap_append]; simp
set_option maxHeartbeats 16000000 in
theorem withNode_any (base nb : Nat) : ∀ (d : Nat) (t : RT) (b : Nat) (v : Value) (L : List Nat) (w : World), NdR nb w t b → FairR t → OwnB base w v L → base ≤ w.heap.size → L.length + (encR d t).length ≤ 1000000000 → d ≤ 14 →
    Calls Tryz.prog 31 #[v, .pointer (some ⟨b, 0, none⟩), .int .i64 d] w (AppP base (L ++ encR d t) w)
  | 0, t, b, v, L, w, hn, hf, ho, hb, hL, hd => by
    have e : L ++ encR 0 t = L := by simp [encR]
    rw [e]
    go_enter Tryz.func31, Tryz.ntmps31
    go_wp2_with fail
    go_ret
    exact ⟨_, rfl, ho, Below.refl _ _, K5.refl _⟩
  | d + 1, t, b, v, L, w, hn, hf, ho, hb, hL, hd => by
    obtain ⟨ow, bk, dd, nn, pv, kv, ks, hN, hA, hh, hbk, hdd, hnn, hpl, hkl, hps, hfk⟩ := hn.parts hf
    rw [encR_parts] at hL ⊢
    simp only [List.length_append] at hL
    have kh := withHead_any base nb b ow bk dd nn pv kv (prsR t) ks v L w hN hpl hbk hdd hnn (by omega) ho hb (by omega)
    rw [← hh] at kh
    have IH := Lib.hid (withNode_any base nb d)
    have HT := Lib.hid hn
    clear hn ho hh hbk hdd hnn
    have D1 : ¬ (((d + 1 : Nat) : Int) = 0) := by omega
    have D2 : IntKind.i64.wrap (((d + 1 : Nat) : Int) - 1) = (d : Int) := by rw [IntWalk.i64_in _ (by omega)]; omega
    go_enter Tryz.func31, Tryz.ntmps31
    go_wp2_with fail
    refine kh.mono ?_
    rintro e w1 ⟨v1, rfl, ho, hB, hK⟩
    have HN := Lib.hid hN
    have HA := Lib.hid hA
    have Hps := Lib.hid hps
    have Hfk := Lib.hid hfk
    clear kh hN hA hps hfk
    have kp := pairs_any _ _ _ _ _ _ _ _ _ _ w1 (hK.node HN.out) hpl
    unfold at0 at kp
    obtain ⟨L1, hL1⟩ : ∃ L1, L1 = L ++ headR t := ⟨_, rfl⟩
    have hl1 : L1.length = L.length + (headR t).length := by rw [hL1, List.length_append]
    rw [← hL1] at ho
    obtain ⟨xs, hxs⟩ : ∃ xs, xs = prsR t := ⟨_, rfl⟩
    rw [← hxs] at kp hpl hL
    have HXS := Lib.hid hxs
    have HL1 := Lib.hid hL1
    clear hxs hL1
    go_wp2_with fail
    refine kp.mono ?_
    rintro e w2 ⟨vx, rfl, hOx, hB2⟩
    obtain ⟨Ax, cx, rfl, hRx, -⟩ := hOx.rd
    have ho := ho.below hB2
    have hK := hK.trans (K5.below hB2)
    have hB := hB.trans (hB2.mono (Nat.le_trans hb hB.size))
    clear kp hB2
    go_wp2_with fail
    go_loopw [0, 24] (fun v0 vi wr => ∃ j : Nat, j ≤ xs.length ∧ vi = .int .i64 j ∧ OwnB base wr v0 (L1 ++ pairsB (xs.take j)) ∧ Own w1.heap.size wr (.slice Ax xs.length cx) xs ∧ Below base w wr ∧ K5 w wr) (fun v0 vi wr => xs.length - (intOf vi).toNat)
    case atStart => exact ⟨0, by omega, rfl, by simpa [pairsB] using ho, hOx, hB, hK⟩
    case round =>
      clear ho hB hK hOx hRx
      obtain ⟨j, hj, rfl, ho, hOx, hB, hK⟩ := hrel
      by_cases hlt : j < xs.length
      · obtain ⟨A', c', e', hRx, -⟩ := hOx.rd
        simp only [Value.slice.injEq] at e'
        obtain ⟨rfl, -, rfl⟩ := e'
        obtain ⟨g, off, rfl, c0, c1⟩ := hRx j xs[j] (List.getElem?_eq_getElem hlt)
        have HFT := Lib.hid (flatM_take pairB xs j hlt)
        have hpx := Hps.out xs[j] (by rw [← HXS.out]; exact List.getElem_mem hlt)
        have hTL := take_len_le pairB xs j
        generalize xs[j] = p at *
        have L1' : (j : Int) < (xs.length : Int) := by omega
        have L2' : IntKind.i64.wrap ((j : Int) + 1) = ((j + 1 : Nat) : Int) := by rw [IntWalk.i64_in _ (by omega)]; omega
        go_upto_region 7 with (fail)
        have hBl := (Below.refl _ wr).alloc (Nat.le_refl _) (.cells #[.string p.1, .string p.2] 52)
        have hP := Blk.new wr 52 #[.string p.1, .string p.2]
        have ho := ho.below hBl
        have hOx := hOx.below hBl
        have hK := hK.trans (K5.below hBl)
        have hB := hB.trans (hBl.mono (Nat.le_trans hb hB.size))
        clear hBl c0 c1 hRx
        generalize wr.alloc (.cells #[.string p.1, .string p.2] 52) = W3 at *
        generalize wr.heap.size = N8 at *
        have hdr : Below W3.heap.size W3 W3.drew := (Below.refl _ W3).drew
        have hS0 : (fun w' : World => w'.cell? ⟨N8, 0, none⟩ = some (.string p.1) ∧ w'.cell? ⟨N8, 1, none⟩ = some (.string p.2)) W3.drew := ⟨hP.cell 0, hP.cell 1⟩
        have hoW := ho.below hdr
        have hOx := hOx.below hdr
        have hP := hP.below hdr
        have hK := hK.trans (K5.below hdr)
        have hB := hB.drew
        have hbs := Nat.le_trans hb hB.size
        have hlp : (L1 ++ pairsB (xs.take j)).length ≤ 2000000000 := by rw [List.length_append]; unfold pairsB at hL ⊢; omega
        have kt1 := fun (h : OwnB base W3.drew u0 (L1 ++ pairsB (xs.take j))) => withText_any base u0 (L1 ++ pairsB (xs.take j)) p.1 W3.drew h hbs (by omega) hpx.1
        have kt2 := fun v1 w' (h : OwnB base w' v1 (L1 ++ pairsB (xs.take j) ++ textB p.1)) (hB : Below base W3.drew w') => withText_any base v1 (L1 ++ pairsB (xs.take j) ++ textB p.1) p.2 w' h (Nat.le_trans hbs hB.size) (by rw [List.length_append, textB_len]; omega) hpx.2
        clear ho hdr
        refine wp_region_held_drew (S := fun w' : World => w'.cell? ⟨N8, 0, none⟩ = some (.string p.1) ∧ w'.cell? ⟨N8, 1, none⟩ = some (.string p.2)) (by kernel_rfl) hS0 ?_
        intro hS
        refine wpAnyH_take (i := 0) (oi := { dst := some 28, op := Go.Op.move (Go.Operand.tmp 0), type := 34, pos := "shape.go:50", after := #[], guard := none }) (v := u0) rfl (by kernel_rfl) (by kernel_rfl) (by kernel_rfl) (fun _ _ _ h => h) (Or.inl ⟨by rfl, fun w hSw => ?_⟩) hS ?_
        · go_split_ands
          go_simp
        try simp only [Act.put, List.setIfInBounds_toArray, List.set_cons_zero, List.set_cons_succ]
        refine wpAnyH_take (i := 1) (oi := { dst := some 29, op := Go.Op.fieldAddr 52 (Go.Operand.tmp 8) 0, type := 0, pos := "shape.go:50", after := #[], guard := none }) (v := .pointer (some ⟨N8, 0, none⟩)) rfl (by kernel_rfl) (by kernel_rfl) (by kernel_rfl) (fun _ _ _ h => h) (Or.inl ⟨by rfl, fun w hSw => ?_⟩) hS ?_
        · go_split_ands
          go_simp
        try simp only [Act.put, List.setIfInBounds_toArray, List.set_cons_zero, List.set_cons_succ]
        refine wpAnyH_take (i := 2) (oi := { dst := some 30, op := Go.Op.load 9 (Go.Operand.tmp 29), type := 9, pos := "shape.go:50", after := #[{ on := 1, ground := Go.Ground.data }], guard := none }) (v := .string p.1) rfl (by kernel_rfl) (by kernel_rfl) (by kernel_rfl) (fun _ _ _ h => h) (Or.inl ⟨by rfl, fun w hSw => ?_⟩) hS ?_
        · go_split_ands
          go_simp
        try simp only [Act.put, List.setIfInBounds_toArray, List.set_cons_zero, List.set_cons_succ]
        refine wpAnyH_take (i := 4) (oi := { dst := some 32, op := Go.Op.fieldAddr 52 (Go.Operand.tmp 8) 1, type := 0, pos := "shape.go:50", after := #[], guard := none }) (v := .pointer (some ⟨N8, 1, none⟩)) rfl (by kernel_rfl) (by kernel_rfl) (by kernel_rfl) (fun _ _ _ h => h) (Or.inl ⟨by rfl, fun w hSw => ?_⟩) hS ?_
        · go_split_ands
          go_simp
        try simp only [Act.put, List.setIfInBounds_toArray, List.set_cons_zero, List.set_cons_succ]
        refine wpAnyH_take (i := 5) (oi := { dst := some 33, op := Go.Op.load 9 (Go.Operand.tmp 32), type := 9, pos := "shape.go:50", after := #[{ on := 4, ground := Go.Ground.data }], guard := none }) (v := .string p.2) rfl (by kernel_rfl) (by kernel_rfl) (by kernel_rfl) (fun _ _ _ h => h) (Or.inl ⟨by rfl, fun w hSw => ?_⟩) hS ?_
        · go_split_ands
          go_simp
        try simp only [Act.put, List.setIfInBounds_toArray, List.set_cons_zero, List.set_cons_succ]
        refine wpAnyH_ready (rs := [3]) (by kernel_rfl) (by simp) ?_
        refine AllReadyH.cons (o := { dst := some 31, op := Go.Op.call { callee := Go.Callee.value (Go.Operand.func 58), args := #[Go.Operand.tmp 28, Go.Operand.tmp 30], argTypes := #[34, 9] }, type := 34, pos := "shape.go:50", after := #[{ on := 0, ground := Go.Ground.data }, { on := 2, ground := Go.Ground.data }], guard := none }) rfl (fun K hK => ?_) AllReadyH.nil
        go_simp
        refine (kt1 hoW).mono ?_
        rintro e wA ⟨v1, rfl, ho1, hB1, hKp⟩
        go_wp2_with fail
        have hP1 := hKp.blk hP (by decide)
        have hSn : (fun w' : World => w'.cell? ⟨N8, 0, none⟩ = some (.string p.1) ∧ w'.cell? ⟨N8, 1, none⟩ = some (.string p.2)) wA := ⟨hP1.cell 0, hP1.cell 1⟩
        refine hK.out _ _ hSn (fun _ => ?_)
        clear hK K hS
        try simp only [Act.put, List.setIfInBounds_toArray, List.set_cons_zero, List.set_cons_succ]
        have hS := hSn
        clear hSn
        refine wpAnyH_ready (rs := [6]) (by kernel_rfl) (by simp) ?_
        refine AllReadyH.cons (o := { dst := some 34, op := Go.Op.call { callee := Go.Callee.value (Go.Operand.func 58), args := #[Go.Operand.tmp 31, Go.Operand.tmp 33], argTypes := #[34, 9] }, type := 34, pos := "shape.go:50", after := #[{ on := 3, ground := Go.Ground.data }, { on := 5, ground := Go.Ground.data }, { on := 3, ground := Go.Ground.chain }], guard := none }) rfl (fun K hK => ?_) AllReadyH.nil
        go_simp
        refine (kt2 _ _ ho1 hB1).mono ?_
        rintro e wC ⟨v2, rfl, ho2, hB2, hKp2⟩
        go_wp2_with fail
        have hP2 := hKp2.blk hP1 (by decide)
        have hSn : (fun w' : World => w'.cell? ⟨N8, 0, none⟩ = some (.string p.1) ∧ w'.cell? ⟨N8, 1, none⟩ = some (.string p.2)) wC := ⟨hP2.cell 0, hP2.cell 1⟩
        refine hK.out _ _ hSn (fun _ => ?_)
        clear hK K hS
        try simp only [Act.put, List.setIfInBounds_toArray, List.set_cons_zero, List.set_cons_succ]
        have hS := hSn
        clear hSn
        refine wpAnyH_take (i := 7) (oi := { dst := some 0, op := Go.Op.assign (Go.Operand.tmp 34), type := 34, pos := "shape.go:50", after := #[{ on := 6, ground := Go.Ground.data }, { on := 6, ground := Go.Ground.chain }, { on := 0, ground := Go.Ground.phase }, { on := 1, ground := Go.Ground.phase }, { on := 2, ground := Go.Ground.phase }, { on := 3, ground := Go.Ground.phase }, { on := 4, ground := Go.Ground.phase }, { on := 5, ground := Go.Ground.phase }, { on := 6, ground := Go.Ground.phase }], guard := none }) (v := v2) rfl (by kernel_rfl) (by kernel_rfl) (by kernel_rfl) (fun _ _ _ h => h) (Or.inl ⟨by rfl, fun w hSw => ?_⟩) hS ?_
        · go_split_ands
          go_simp
        try simp only [Act.put, List.setIfInBounds_toArray, List.set_cons_zero, List.set_cons_succ]
        refine wpAnyH_done (by kernel_rfl) ?_ _

        clear hS kt1 kt2 hoW ho1 hP hP1 hP2
        have hOx := hKp2.own (hKp.own hOx (by decide)) (by decide)
        go_wp2_with fail
        refine ⟨⟨j + 1, by omega, by go_num, ?_, hOx, (hB.trans hB1).trans hB2, (hK.trans hKp).trans hKp2⟩, by simp [intOf]; omega⟩
        have e1 : L1 ++ pairsB (xs.take (j + 1)) = L1 ++ pairsB (xs.take j) ++ textB p.1 ++ textB p.2 := by
          unfold pairsB
          rw [HFT.out]
          simp [pairB]
        rw [e1]
        exact ho2
      · obtain rfl : j = xs.length := by omega
        have G : ¬ ((xs.length : Int) < (xs.length : Int)) := by omega
        rw [List.take_length] at ho
        obtain ⟨L2, hL2⟩ : ∃ L2, L2 = L1 ++ pairsB xs := ⟨_, rfl⟩
        have hl2 : L2.length = L1.length + (pairsB xs).length := by rw [hL2, List.length_append]
        rw [← hL2] at ho
        have kk := kids_any _ _ _ _ _ _ _ _ _ _ wr (hK.node HN.out) (by omega)
        unfold at0 at kk
        clear hOx
        go_wp2_with fail
        refine kk.mono ?_
        rintro e w4 ⟨vk, rfl, hOk, hB4⟩
        obtain ⟨Ak, ck, rfl⟩ := own_formN hOk
        obtain ⟨B4, hB4e⟩ : ∃ B4, B4 = wr.heap.size := ⟨_, rfl⟩
        rw [← hB4e] at hOk
        clear hB4e
        have ho := ho.below hB4
        have hK := hK.trans (K5.below hB4)
        have hB := hB.trans (hB4.mono (Nat.le_trans hb hB.size))
        clear kk hB4
        go_wp2_with fail
        go_loopw [0, 39] (fun v0 vi wr => ∃ j : Nat, j ≤ ks.length ∧ vi = .int .i64 j ∧ OwnB base wr v0 (L2 ++ ((kidsOf t).take j).flatMap (encR d)) ∧ OwnK B4 wr (.slice Ak ks.length ck) ks ∧ Below base w wr ∧ K5 w wr) (fun v0 vi wr => ks.length - (intOf vi).toNat)
        case atStart => exact ⟨0, by omega, rfl, by simpa using ho, hOk, hB, hK⟩
        case round =>
          clear ho hB hK hOk
          obtain ⟨j, hj, rfl, ho, hOk, hB, hK⟩ := hrel
          by_cases hlt : j < ks.length
          · have hlk : j < (kidsOf t).length := by rw [← all2_len HA.out]; exact hlt
            have HR := Lib.hid (hK.tree (all2_get HA.out j hlt hlk))
            have HFk := Lib.hid (Hfk.out _ (List.getElem_mem hlk))
            have HFT := Lib.hid (flatM_take (encR d) (kidsOf t) j hlk)
            have hTL := take_len_le (encR d) (kidsOf t) (j + 1)
            rw [HFT.out, List.length_append] at hTL
            obtain ⟨g, cap, cur, e', -, hBg, -, -, -, htk⟩ := own_blk hOk (by omega)
            simp only [Value.slice.injEq] at e'
            obtain ⟨rfl, -, rfl⟩ := e'
            have z5 : wr.cell? ⟨g, j, none⟩ = some (.pointer (some ⟨ks[j], 0, none⟩)) := by
              rw [hOk.cellAt j (by simpa using hlt)]
              simp [kcs, hlt, at0]
            have hbs := Nat.le_trans hb hB.size
            have ki := IH.out (kidsOf t)[j] ks[j] u0 (L2 ++ ((kidsOf t).take j).flatMap (encR d)) wr HR.out HFk.out ho hbs (by rw [List.length_append]; omega) (by omega)
            generalize ks[j] = kb at *
            have L1' : (j : Int) < (ks.length : Int) := by omega
            have L2' : IntKind.i64.wrap ((j : Int) + 1) = ((j + 1 : Nat) : Int) := by rw [IntWalk.i64_in _ (by omega)]; omega
            clear hTL htk hBg ho
            go_wp2_with fail
            refine ki.mono ?_
            rintro e w5 ⟨v5, rfl, ho5, hB5, hK5⟩
            have hOk := hK5.own hOk (by decide)
            have hB := hB.trans hB5
            have hK := hK.trans hK5
            clear ki hB5 hK5 z5
            go_wp2_with fail
            refine ⟨⟨j + 1, by omega, by go_num, ?_, hOk, hB, hK⟩, by simp [intOf]; omega⟩
            rw [HFT.out, ← List.append_assoc]
            exact ho5
          · obtain rfl : j = ks.length := by omega
            have G2 : ¬ ((ks.length : Int) < (ks.length : Int)) := by omega
            have e1 : L ++ (headR t ++ (pairsB xs ++ (kidsOf t).flatMap (encR d))) = L2 ++ ((kidsOf t).take ks.length).flatMap (encR d) := by
              rw [all2_len HA.out, List.take_length, hL2, HL1.out]
              simp
            rw [← e1] at ho
            rw [HXS.out] at ho
            clear hOk
            go_wp2_with fail
            go_ret
            exact ⟨_, rfl, ho, hB, hK⟩
end Go.Proofs.YtchimfgbdfmegaaGreat
/- Of, bytes.Equal and Same of package shape. -/
namespace Go.Proofs.YtchimfgbdfmegaaGreat
open Go.RowKit Go.Lib
set_option linter.unusedVariables false
set_option linter.unusedSimpArgs false
set_option maxRecDepth 100000
attribute [local irreducible] cnt
def Bytes (L : List Nat) : Prop := ∀ x ∈ L, x < 256
theorem bytes_app {L M : List Nat} (h : Bytes L) (k : Bytes M) : Bytes (L ++ M) := fun x hx => by
  rcases List.mem_append.1 hx with hx | hx
  · exact h x hx
  · exact k x hx
theorem bytes_cons {a : Nat} {M : List Nat} (h : a < 256) (k : Bytes M) : Bytes (a :: M) := fun x hx => by
  rcases List.mem_cons.1 hx with rfl | hx
  · exact h
  · exact k x hx
theorem bytes_two (n : Nat) : Bytes (twoB n) := fun x hx => by simp [twoB] at hx; omega
theorem bytes_four (n : Nat) : Bytes (fourB n) := fun x hx => by simp [fourB] at hx; omega
theorem bytes_str (s : ByteArray) : Bytes (strB s) := fun x hx => by
  unfold strB at hx
  obtain ⟨b, _, rfl⟩ := List.mem_map.1 hx
  exact b.toNat_lt
theorem bytes_text (s : ByteArray) : Bytes (textB s) := bytes_app (bytes_two _) (bytes_str s)
theorem bytes_flat {α : Type} {f : α → List Nat} {xs : List α} (h : ∀ x ∈ xs, Bytes (f x)) : Bytes (xs.flatMap f) := fun y hy => by
  obtain ⟨x, hx, hy⟩ := List.mem_flatMap.1 hy
  exact h x hx y hy
theorem bytes_pairs (ps : List Pr) : Bytes (pairsB ps) := bytes_flat fun p _ => bytes_app (bytes_text _) (bytes_text _)
theorem bytes_enc : ∀ (d : Nat) (t : RT), Bytes (encR d t)
  | 0, t => fun x hx => by simp [encR] at hx
  | d + 1, t => by
    rw [encR_parts]
    refine bytes_app ?_ (bytes_app (bytes_pairs _) (bytes_flat fun s _ => bytes_enc d s))
    cases t with
    | no => exact fun x hx => by simp [headR] at hx
    | bucket L => exact bytes_cons (by omega) (bytes_two _)
    | inner P K => exact bytes_cons (by omega) (bytes_app (bytes_four _) (bytes_four _))
def strN (L : List Nat) : ByteArray := ⟨(L.map fun n => UInt8.ofNat n).toArray⟩
theorem strN_inj {L M : List Nat} (hL : Bytes L) (hM : Bytes M) (h : strN L = strN M) : L = M := by
  have h2 : (strN L).data.toList.map UInt8.toNat = (strN M).data.toList.map UInt8.toNat := by rw [h]
  have e : ∀ X : List Nat, Bytes X → (strN X).data.toList.map UInt8.toNat = X := fun X hX => by
    unfold strN
    simp only [List.map_map]
    conv => rhs; rw [← List.map_id X]
    refine List.map_congr_left fun x hx => ?_
    have := hX x hx
    simp
    omega
  rwa [e L hL, e M hM] at h2
theorem strN_nums (L : List Nat) : strOfNums (L.map fun n : Nat => (n : Int)) = strN L := by
  unfold strOfNums strN
  simp
theorem OwnB.conv {base : Nat} {w : World} {v : Value} {L : List Nat} (h : OwnB base w v L) : (convert 34 9 v).run Tryz.prog w = .ok (.string (strN L)) w := by
  rcases h.2 with ⟨h1, h0⟩ | ⟨g, cap, cur, rfl, hg, _⟩
  · have : L = [] := List.length_eq_zero_iff.1 h0
    subst this
    rw [h1]
    exact run_convert_bytes_nil w 34 5 Tryz.underlying34 Tryz.underlying5 _ _ 9 Tryz.underlying9
  · have hc := run_convert_bytes_arg w 34 5 Tryz.underlying34 Tryz.underlying5 g 0 L.length cap (L.map fun n : Nat => (n : Int)) (by simp) (fun i hi => by
      have h' : w.ownsRow base 5 1 (.slice (some ⟨g, 0, none⟩) L.length cap) L.length (ubs L) := h
      rw [Nat.zero_add, h'.cellAt i (by omega)]
      simp [ubs, List.getD, hi]) 9 Tryz.underlying9
    rw [strN_nums] at hc
    exact hc
theorem equal_bytes (base base' : Nat) (v v' : Value) (L M : List Nat) (w : World) (h : OwnB base w v L) (h' : OwnB base' w v' M) (hL : Bytes L) (hM : Bytes M) :
    Calls Tryz.prog 38 #[v, v'] w fun e w' => e = .returned (.bool (decide (L = M))) ∧ w = w' := by
  have c1 := h.conv
  have c2 := h'.conv
  have e : ((strN L).toList == (strN M).toList) = decide (L = M) := by
    rw [Bool.eq_iff_iff]
    simp only [beq_iff_eq, decide_eq_true_eq]
    constructor
    · intro he
      rw [ByteArray.toList_eq, ByteArray.toList_eq] at he
      exact strN_inj hL hM (bytes_ext he)
    · rintro rfl; rfl
  clear h h'
  generalize strN L = s1 at *
  generalize strN M = s2 at *
  go_enter Tryz.func38, Tryz.ntmps38
  go_wp2_with fail
  go_ret
  exact ⟨rfl, rfl⟩
set_option maxHeartbeats 2000000 in
theorem of_node (nb : Nat) (t : RT) (b : Nat) (w : World) (hn : NdR nb w t b) (hf : FairR t) (hL : (encR 14 t).length ≤ 1000000000) :
    Calls Tryz.prog 11 #[.pointer (some ⟨b, 0, none⟩)] w (AppP w.heap.size (encR 14 t) w) := by
  have k := withNode_any w.heap.size nb 14 t b (.slice none 0 0) [] w hn hf (OwnB.nil _ _) (Nat.le_refl _) (by simpa using hL) (by omega)
  rw [List.nil_append] at k
  go_enter Tryz.func11, Tryz.ntmps11
  go_wp2_with fail
  refine k.mono ?_
  rintro e w1 ⟨v, rfl, ho, hB, hK⟩
  go_wp2_with fail
  go_ret
  exact ⟨_, rfl, ho, hB, hK⟩
theorem of_none (w : World) : Calls Tryz.prog 11 #[.pointer none] w (AppP w.heap.size [] w) := by
  have k : Calls Tryz.prog 31 #[.slice none 0 0, .pointer none, .int .i64 14] w (AppP w.heap.size [] w) := by
    go_enter Tryz.func31, Tryz.ntmps31
    go_wp2_with fail
    go_ret
    exact ⟨_, rfl, OwnB.nil _ _, Below.refl _ _, K5.refl _⟩
  go_enter Tryz.func11, Tryz.ntmps11
  go_wp2_with fail
  refine k.mono ?_
  rintro e w1 ⟨v, rfl, ho, hB, hK⟩
  go_wp2_with fail
  go_ret
  exact ⟨_, rfl, ho, hB, hK⟩
end Go.Proofs.YtchimfgbdfmegaaGreat
/- Same of package shape. -/
namespace Go.Proofs.YtchimfgbdfmegaaGreat
open Go.RowKit Go.Lib
set_option linter.unusedVariables false
set_option linter.unusedSimpArgs false
set_option maxRecDepth 100000
attribute [local irreducible] cnt
theorem NdR.blk {nb : Nat} {w : World} {t : RT} {b : Nat} (h : NdR nb w t b) (hf : FairR t) : ∃ cs, Blk w b 100 cs := by
  obtain ⟨ow, bk, d, nn, pv, kv, ks, hN, -⟩ := h.parts hf
  exact ⟨_, hN.blk⟩
set_option maxHeartbeats 4000000 in
theorem same_node (nb nb' : Nat) (t u : RT) (a b : Nat) (w : World) (hn : NdR nb w t a) (hf : FairR t) (hL : (encR 14 t).length ≤ 1000000000) (hn' : NdR nb' w u b) (hf' : FairR u) (hL' : (encR 14 u).length ≤ 1000000000) (hab : a = b → encR 14 t = encR 14 u) :
    Calls Tryz.prog 16 #[.pointer (some ⟨a, 0, none⟩), .pointer (some ⟨b, 0, none⟩)] w fun e w' => e = .returned (.bool (decide (encR 14 t = encR 14 u))) ∧ Below w.heap.size w w' := by
  by_cases e : a = b
  · have h1 := hab e
    subst e
    have q := eql_node_same a w
    unfold at0 at q
    rw [h1]
    clear hn hn' hab h1
    go_enter Tryz.func16, Tryz.ntmps16
    go_wp2_with fail
    go_ret
    exact ⟨by simp, Below.refl _ _⟩
  · obtain ⟨ca, hca⟩ := hn.blk hf
    obtain ⟨cb, hcb⟩ := hn'.blk hf'
    have q := eql_node_other w e hca hcb
    unfold at0 at q
    have k1 := of_node nb t a w hn hf hL
    have HN := Lib.hid hn'
    clear hca hcb hn hn' hab
    go_enter Tryz.func16, Tryz.ntmps16
    go_wp2_with fail
    refine k1.mono ?_
    rintro e w1 ⟨v1, rfl, ho1, hB1, hK1⟩
    have k2 := of_node nb' u b w1 (NdR.below u HN.out hB1) hf' hL'
    clear k1 q
    go_wp2_with fail
    refine k2.mono ?_
    rintro e w2 ⟨v2, rfl, ho2, hB2, hK2⟩
    have k3 := equal_bytes _ _ v1 v2 _ _ w2 (ho1.below hB2) ho2 (bytes_enc 14 t) (bytes_enc 14 u)
    have hB := hB1.trans (hB2.mono hB1.size)
    clear k2 ho1 ho2 hB1 hB2 hK1 hK2
    go_wp2_with fail
    refine k3.mono ?_
    rintro e w3 ⟨rfl, rfl⟩
    go_wp2_with fail
    go_ret
    exact ⟨rfl, hB⟩
theorem same_nils (w : World) : Calls Tryz.prog 16 #[.pointer none, .pointer none] w fun e w' => e = .returned (.bool true) ∧ Below w.heap.size w w' := by
  go_enter Tryz.func16, Tryz.ntmps16
  go_wp2_with fail
  go_ret
  exact ⟨rfl, Below.refl _ _⟩
theorem encR_ne {d : Nat} {t : RT} (h : t.opt = some t) : encR (d + 1) t ≠ [] := by
  cases t with
  | no => simp [RT.opt] at h
  | bucket L => simp [encR]
  | inner P K => simp [encR]
set_option maxHeartbeats 4000000 in
theorem same_nil (nb : Nat) (t : RT) (a : Nat) (w : World) (hn : NdR nb w t a) (hf : FairR t) (ht : t.opt = some t) (hL : (encR 14 t).length ≤ 1000000000) :
    Calls Tryz.prog 16 #[.pointer (some ⟨a, 0, none⟩), .pointer none] w fun e w' => e = .returned (.bool false) ∧ Below w.heap.size w w' := by
  have k1 := of_node nb t a w hn hf hL
  clear hn
  go_enter Tryz.func16, Tryz.ntmps16
  go_wp2_with fail
  refine k1.mono ?_
  rintro e w1 ⟨v1, rfl, ho1, hB1, hK1⟩
  have k2 := of_none w1
  clear k1
  go_wp2_with fail
  refine k2.mono ?_
  rintro e w2 ⟨v2, rfl, ho2, hB2, hK2⟩
  have k3 := equal_bytes _ _ v1 v2 _ _ w2 (ho1.below hB2) ho2 (bytes_enc 14 t) (fun x hx => by simp at hx)
  have hB := hB1.trans (hB2.mono hB1.size)
  rw [decide_eq_false (encR_ne ht)] at k3
  clear k2 ho1 ho2 hB1 hB2 hK1 hK2
  go_wp2_with fail
  refine k3.mono ?_
  rintro e w3 ⟨rfl, rfl⟩
  go_wp2_with fail
  go_ret
  exact ⟨rfl, hB⟩
end Go.Proofs.YtchimfgbdfmegaaGreat
/- The reference's hash. -/
namespace Go.Proofs.YtchimfgbdfmegaaGreat
open Go.RowKit Go.Lib
set_option linter.unusedVariables false
set_option maxRecDepth 100000
set_option linter.unusedSimpArgs false
set_option maxRecDepth 100000
attribute [local irreducible] cnt
set_option maxHeartbeats 2000000 in
theorem refHash_any (k0 k1 m : Int) (s : ByteArray) (w : World) (h0 : U64 k0) (h1 : U64 k1) (hs : s.size ≤ 1000) :
    Calls Tryz.prog 35 #[.agg #[.int .u64 k0, .int .u64 k1, .int .u64 m], .string s] w fun e w' => e = .returned (.int .u64 (hz k0 k1 m s : Nat)) ∧ Below w.heap.size w w' := by
  rw [(hz_int k0 k1 m s).1]
  have hB0 := (Below.refl _ w).alloc (Nat.le_refl _) (.cells #[.int .u64 k0, .int .u64 k1, .int .u64 m] 40)
  have b1 := Blk.new w 40 #[.int .u64 k0, .int .u64 k1, .int .u64 m]
  go_enter Tryz.func35, Tryz.ntmps35
  go_upto_region 1 with (fail)
  generalize w.alloc (.cells #[.int .u64 k0, .int .u64 k1, .int .u64 m] 40) = W at *
  obtain ⟨N0, hN0⟩ : ∃ N0, N0 = w.heap.size := ⟨_, rfl⟩
  rw [← hN0] at b1 ⊢
  clear hN0
  have hS : (fun w' : World => w'.cell? ⟨N0, 0, none⟩ = some (.int .u64 k0) ∧ w'.cell? ⟨N0, 1, none⟩ = some (.int .u64 k1) ∧ w'.cell? ⟨N0, 2, none⟩ = some (.int .u64 m)) W.drew := ⟨b1.cell 0, b1.cell 1, b1.cell 2⟩
  have hBd : Below w.heap.size w W.drew := hB0.drew
  clear hB0 b1
  go_region_held3 (fun w' : World => w'.cell? ⟨N0, 0, none⟩ = some (.int .u64 k0) ∧ w'.cell? ⟨N0, 1, none⟩ = some (.int .u64 k1) ∧ w'.cell? ⟨N0, 2, none⟩ = some (.int .u64 m)) (first | exact hS | exact hK) (first
    | (go_at_call 61; refine (Sip.refSum_any k0 k1 s _ h0 h1 hs).mono ?_; rintro e w1 ⟨rfl, hBl⟩; have hK : (fun w' : World => w'.cell? ⟨N0, 0, none⟩ = some (.int .u64 k0) ∧ w'.cell? ⟨N0, 1, none⟩ = some (.int .u64 k1) ∧ w'.cell? ⟨N0, 2, none⟩ = some (.int .u64 m)) w1 := keepH (w := W.drew) hS hBl))
  have hW := hBd.trans (hBl.mono hBd.size)
  go_wp2
  go_ret
  exact ⟨rfl, hW⟩
end Go.Proofs.YtchimfgbdfmegaaGreat
/- The reference's Of: the hashes of a list. -/
namespace Go.Proofs.YtchimfgbdfmegaaGreat
open Go.RowKit Go.Lib
set_option linter.unusedVariables false
set_option maxRecDepth 100000
set_option linter.unusedSimpArgs false
set_option maxRecDepth 100000
attribute [local irreducible] cnt
/-- numbers as the cells of a row -/
def ucs (hs : List Nat) : List Value := hs.map fun (h : Nat) => .int .u64 (h : Int)
def OwnU (base : Nat) (w : World) (v : Value) (hs : List Nat) : Prop := w.ownsRow base 22 1 v hs.length (ucs hs)
theorem OwnU.below {base : Nat} {w w' : World} {v : Value} {hs : List Nat} (h : OwnU base w v hs) (hb : Below w.heap.size w w') : OwnU base w' v hs := own_keep h (Keep.of_below (X := []) hb) (by simp)
theorem OwnU.nil (base : Nat) (w : World) : OwnU base w (.slice none 0 0) [] := ⟨rfl, .inl ⟨rfl, rfl⟩⟩
theorem info22 : (Tryz.prog.info? 22).map (fun i => (i.zero, i.size, i.bytes)) = some (some (.int .u64 0), 1, 8) := by kernel_rfl
theorem keep_grown {w w' : World} {r : Option Nat} (hg : w.grownBy w' r) : Keep r.toList w w' := ⟨⟨hg.os, hg.tape, hg.output, hg.size, fun i hi => by omega⟩, fun i hi hx => hg.block i hi fun e => hx (by rw [← e]; simp)⟩
theorem zsz_u64 : (Value.cells (.int .u64 0)).size = 1 := by simp [Value.cells]
theorem cell_one_new (w : World) (v : Value) (t : TypeId) : ∀ j u, [v][j]? = some u → (w.alloc (.cells #[v] t)).cell? ((⟨w.heap.size, 0, none⟩ : Addr).add j) = some u := by
  intro j u hj
  have hl := (List.getElem?_eq_some_iff.1 hj).1
  simp at hl
  subst hl
  simp at hj
  subst hj
  exact (Blk.new w t #[v]).cell 0
set_option maxHeartbeats 8000000 in
theorem Of_any (post : Ending → World → Prop) (k0 k1 m : Int) (A : Option Addr) (c l : Nat) (xs : List Pr) (w : World) (h0 : U64 k0) (h1 : U64 k1) (hR : Rd w A xs) (hn : xs.length ≤ 700) (hz1 : ∀ x ∈ xs, x.1.size ≤ 1000)
    (hof : ∀ v w', Below w.heap.size w w' → OwnU w.heap.size w' v (xs.map fun p => hz k0 k1 m p.1) → Calls Tryz.prog 36 #[.slice A xs.length c, v, .int .i64 l] w' (RetB fun b w1 => post (.returned (.pointer (some ⟨b, 0, none⟩))) w1)) :
    Calls Tryz.prog 13 #[.agg #[.int .u64 k0, .int .u64 k1, .int .u64 m], .slice A xs.length c, .int .i64 l] w post := by
  obtain ⟨i0, hi, hy0, hy1, hy2⟩ := info_parts info22
  have hB0 := (Below.refl _ w).alloc (Nat.le_refl _) (.cells #[.int .u64 k0, .int .u64 k1, .int .u64 m] 40)
  have b1 := Blk.new w 40 #[.int .u64 k0, .int .u64 k1, .int .u64 m]
  have HR := Lib.hid hR
  have HO := Lib.hid hof
  clear hR hof
  go_enter Tryz.func13, Tryz.ntmps13
  go_upto_region 1 with (fail)
  generalize w.alloc (.cells #[.int .u64 k0, .int .u64 k1, .int .u64 m] 40) = W at *
  obtain ⟨N0, hN0⟩ : ∃ N0, N0 = w.heap.size := ⟨_, rfl⟩
  rw [← hN0] at b1 ⊢
  clear hN0
  go_wp2_with fail
  go_loopw [7, 12] (fun v vi wr => ∃ j : Nat, j ≤ xs.length ∧ vi = .int .i64 j ∧ OwnU w.heap.size wr v ((xs.take j).map fun p => hz k0 k1 m p.1) ∧ Blk wr N0 40 #[.int .u64 k0, .int .u64 k1, .int .u64 m] ∧ Below w.heap.size w wr) (fun v vi wr => xs.length - (intOf vi).toNat)
  case atStart => exact ⟨0, by omega, rfl, OwnU.nil _ _, b1, hB0⟩
  case round =>
    clear b1 hB0
    obtain ⟨j, hj, rfl, hO, hb, hB⟩ := hrel
    by_cases hlt : j < xs.length
    · obtain ⟨g, off, rfl, c0, c1⟩ := (HR.out.below hB) j xs[j] (List.getElem?_eq_getElem hlt)
      have L1 : (j : Int) < (xs.length : Int) := by omega
      have L2 : IntKind.i64.wrap ((j : Int) + 1) = ((j + 1 : Nat) : Int) := by rw [IntWalk.i64_in _ (by omega)]; omega
      have HTk := Lib.hid (List.take_succ_eq_append_getElem hlt)
      have hsz := hz1 _ (List.getElem_mem hlt)
      obtain ⟨q, hq⟩ : ∃ q, q = xs[j] := ⟨_, rfl⟩
      rw [← hq] at c0 c1 HTk hsz
      clear hq
      go_upto_region 5 with (fail)
      have hBa := (Below.refl _ wr).alloc (Nat.le_refl _) (.cells #[.string q.1, .string q.2] 55)
      have hnew := Blk.new wr 55 #[.string q.1, .string q.2]
      have hO1 := hO.below hBa
      have hb1 := hb.below hBa
      have hB1 := hB.trans (hBa.mono hB.size)
      clear hO hb hB c0 c1 hBa
      generalize wr.alloc (.cells #[.string q.1, .string q.2] 55) = W1 at *
      generalize wr.heap.size = N1 at *
      have d0 : W1.cell? ⟨N1, 0, none⟩ = some (.string q.1) := hnew.cell 0
      have e0 : W1.cell? ⟨N0, 0, none⟩ = some (.int .u64 k0) := hb1.cell 0
      have e1 : W1.cell? ⟨N0, 1, none⟩ = some (.int .u64 k1) := hb1.cell 1
      have e2 : W1.cell? ⟨N0, 2, none⟩ = some (.int .u64 m) := hb1.cell 2
      go_wp2_with fail
      refine (refHash_any k0 k1 m q.1 W1 h0 h1 hsz).mono ?_
      rintro e w2 ⟨rfl, hB2⟩
      have hO2 := hO1.below hB2
      have hb2 := hb1.below hB2
      have hB12 := hB1.trans (hB2.mono hB1.size)
      clear hO1 hb1 hB1 hB2 d0 e0 e1 e2 hnew
      obtain ⟨Hq, hHq⟩ : ∃ Hq, Hq = hz k0 k1 m q.1 := ⟨_, rfl⟩
      have HHq := Lib.hid hHq
      rw [← hHq]
      clear hHq
      have hBc := (Below.refl _ w2).alloc (Nat.le_refl _) (.cells #[.int .u64 (Hq : Nat)] 22)
      have hrow : (w2.alloc (.cells #[.int .u64 (Hq : Nat)] 22)).ownsRow w.heap.size 22 1 u7 ((xs.take j).map fun p => hz k0 k1 m p.1).length (ucs ((xs.take j).map fun p => hz k0 k1 m p.1)) := hO2.below hBc
      have hb3 := Lib.hid (hb2.below hBc)
      have HB3 := Lib.hid (hB12.trans (hBc.mono hB12.size))
      have hsz3 : w.heap.size ≤ (w2.alloc (.cells #[.int .u64 (Hq : Nat)] 22)).heap.size := HB3.out.size
      have hlen : ((xs.take j).map fun p => hz k0 k1 m p.1).length ≤ 700 := by rw [List.length_map, List.length_take]; omega
      clear hO2 hb2 hB12 hBc
      obtain ⟨R, hRr⟩ : ∃ R, R = (xs.take j).map fun p => hz k0 k1 m p.1 := ⟨_, rfl⟩
      rw [← hRr] at hrow hlen
      have HRr := Lib.hid hRr
      clear hRr
      go_wp2_with (at_builtin; refine wpList_append_own_at _ rfl _ _ 83 rfl w.heap.size 22 i0 _ 1 8 Tryz.underlying83 hi hy0 hy1 hy2 zsz_u64 (by decide) _ _ _ rfl hrow ⟨w2.heap.size, 0, none⟩ 1 1 [.int .u64 (Hq : Nat)] rfl rfl (cell_one_new _ _ _) (by simp [Value.oneCell']) (by unfold maxLen; omega) (by omega) hsz3 ?_; intro v' wa hown' hgrow hnil hat)
      have kk := keep_grown hgrow
      have row : ∀ x ∈ u7.ownBlock.toList, ∃ cs, (w2.alloc (.cells #[.int .u64 (Hq : Nat)] 22)).heap[x]? = some (.cells cs 22 (0, 0)) := fun x hx => own_cells hrow x (by simpa using hx)
      refine ⟨⟨j + 1, by omega, by go_num, ?_, hb3.out.keep kk fun hm => ?_, HB3.out.grown hgrow hsz3 (own_ge hrow)⟩, by simp [intOf]; omega⟩
      · rw [HTk.out, List.map_append, ← HRr.out]
        unfold OwnU ucs
        rw [List.length_append, List.map_append]
        simp only [List.map_cons, List.map_nil, ← HHq.out]
        exact hown'
      · obtain ⟨cs, e1⟩ := row _ hm
        have h2 := hb3.out
        unfold Blk at h2; rw [h2] at e1; cases e1
    · obtain rfl : j = xs.length := by omega
      rw [List.take_length] at hO
      have kk := HO.out _ _ hB hO
      clear HO HR
      go_wp2_with fail
      refine kk.mono ?_
      rintro e w1 ⟨b, rfl, hp⟩
      go_wp2_with fail
      exact hp
end Go.Proofs.YtchimfgbdfmegaaGreat
/- The reference's tries in memory. -/
namespace Go.Proofs.YtchimfgbdfmegaaGreat
open Go.RowKit Go.Lib
set_option linter.unusedVariables false
set_option maxRecDepth 100000
set_option linter.unusedSimpArgs false
set_option maxRecDepth 100000
attribute [local irreducible] cnt
/-- the cells of a node of the reference -/
def rcs (f : Nat → Value) : List Value := (List.range 130).map f
def RB (w : World) (b : Nat) (f : Nat → Value) : Prop := Blk w b 60 (rcs f).toArray
def upd (f : Nat → Value) (i : Nat) (v : Value) : Nat → Value := fun j => if j = i then v else f j
/-- a node with nothing in it -/
def rb0 (bk : Bool) (lv : Value) : Nat → Value := fun i => if i = 0 then .bool bk else if i = 1 then lv else if i < 34 then .int .i64 0 else if i < 98 then .string ⟨#[]⟩ else .pointer none
section
variable {w w' : World} {b : Nat} {f : Nat → Value}
theorem rcs_len (f : Nat → Value) : (rcs f).length = 130 := by simp [rcs]
theorem RB.cell (h : RB w b f) (i : Nat) (hi : i < 130) : w.cell? ⟨b, i, none⟩ = some (f i) := by
  have := Blk.cell h i
  rw [this]
  simp [rcs, hi]
theorem RB.frozen (h : RB w b f) (i : Nat) : w.frozen? ⟨b, i, none⟩ = false := Blk.frozen h i
theorem rcs_set (f : Nat → Value) (i : Nat) (v : Value) : (rcs f).toArray.setIfInBounds i v = (rcs (upd f i v)).toArray := by
  apply Array.ext'
  rw [Array.toList_setIfInBounds]
  apply List.ext_getElem?
  intro j
  rw [List.getElem?_set]
  simp only [rcs, upd, List.length_map, List.length_range, List.getElem?_map, List.toList_toArray]
  by_cases hj : j < 130
  · by_cases e : i = j
    · subst e; simp [hj, upd]
    · have e' : ¬ j = i := fun x => e x.symm
      simp [e, e', hj, upd]
  · by_cases e : i = j
    · subst e; simp [hj, upd]
    · simp [e, hj]
theorem RB.set (h : RB w b f) (i : Nat) (v : Value) : RB (w.setCell ⟨b, i, none⟩ v) b (upd f i v) := by
  have := Blk.set_ h i v
  rw [rcs_set] at this
  exact this
theorem RB.lt (h : RB w b f) : b < w.heap.size := Blk.lt h
theorem RB.below (h : RB w b f) (hb : Below w.heap.size w w') : RB w' b f := Blk.below h hb
end
/-- what a chunk of the reference has of its pairs -/
def SlotR (T : Nat → List Pr → Prop) (is p0 p1 k : Value) (qs : List Pr) : Prop :=
  match qs with
  | [] => is = .int .i64 0
  | [p] => is = .int .i64 1 ∧ p0 = .string p.1 ∧ p1 = .string p.2
  | x :: y :: r => is = .int .i64 2 ∧ ∃ kb, k = at0 kb ∧ T kb (x :: y :: r)
/-- the reference's trie of pairs, n levels above the buckets; N names none of its blocks -/
def TrieR (H : ByteArray → Nat) (N : Nat → Prop) (w : World) : Nat → Nat → Nat → List Pr → Prop
  | 0, l, b, ps => ∃ f A c, RB w b f ∧ ¬ N b ∧ f 0 = .bool true ∧ f 1 = .slice A ps.length c ∧ Rd w A ps ∧ ∀ a, A = some a → ¬ N a.block
  | n + 1, l, b, ps => ∃ f, RB w b f ∧ ¬ N b ∧ f 0 = .bool false ∧ ∀ c, c < 32 → SlotR (fun k qs => TrieR H N w n (l + 1) k qs) (f (2 + c)) (f (34 + c * 2)) (f (34 + c * 2 + 1)) (f (98 + c)) (sub H l c ps)
section
variable {H : ByteArray → Nat} {N N' : Nat → Prop} {w w' : World}
theorem SlotR.mono {T T' : Nat → List Pr → Prop} {a b c d : Value} {qs : List Pr} (h : SlotR T a b c d qs) (hT : ∀ k, T k qs → T' k qs) : SlotR T' a b c d qs := by
  match qs with
  | [] => exact h
  | [p] => exact h
  | x :: y :: r =>
    obtain ⟨h1, kb, h2, h3⟩ := h
    exact ⟨h1, kb, h2, hT kb h3⟩
theorem cell_heap {w w' : World} {a : Addr} (h : w'.heap[a.block]? = w.heap[a.block]?) : w'.cell? a = w.cell? a := by
  unfold World.cell?
  rw [h]
theorem Rd.keepN {A : Option Addr} {xs : List Pr} (h : Rd w A xs) (hk : ∀ b, b < w.heap.size → ¬ N b → w'.heap[b]? = w.heap[b]?) (hA : ∀ a, A = some a → ¬ N a.block) : Rd w' A xs := fun j p hj => by
  obtain ⟨g, off, rfl, c0, c1⟩ := h j p hj
  have hn : ¬ N g := hA _ rfl
  have hl := World.block_lt_of_cell? w _ c0
  exact ⟨g, off, rfl, (cell_heap (hk g hl hn)).trans c0, (cell_heap (hk g hl hn)).trans c1⟩
theorem RB.keepN {b : Nat} {f : Nat → Value} (h : RB w b f) (hk : ∀ b, b < w.heap.size → ¬ N b → w'.heap[b]? = w.heap[b]?) (hb : ¬ N b) : RB w' b f := (hk b h.lt hb).trans h
theorem TrieR.keepN (hk : ∀ b, b < w.heap.size → ¬ N b → w'.heap[b]? = w.heap[b]?) : ∀ (n l b : Nat) (ps : List Pr), TrieR H N w n l b ps → TrieR H N w' n l b ps
  | 0, l, b, ps, h => by
    obtain ⟨f, A, c, h1, h2, h3, h4, h5, h6⟩ := h
    exact ⟨f, A, c, h1.keepN hk h2, h2, h3, h4, h5.keepN hk h6, h6⟩
  | n + 1, l, b, ps, h => by
    obtain ⟨f, h1, h2, h3, h4⟩ := h
    exact ⟨f, h1.keepN hk h2, h2, h3, fun c hc => (h4 c hc).mono fun k hT => TrieR.keepN hk n (l + 1) k _ hT⟩
theorem TrieR.less (hN : ∀ x, N' x → N x) : ∀ (n l b : Nat) (ps : List Pr), TrieR H N w n l b ps → TrieR H N' w n l b ps
  | 0, l, b, ps, h => by
    obtain ⟨f, A, c, h1, h2, h3, h4, h5, h6⟩ := h
    exact ⟨f, A, c, h1, fun h => h2 (hN _ h), h3, h4, h5, fun a ha h => h6 a ha (hN _ h)⟩
  | n + 1, l, b, ps, h => by
    obtain ⟨f, h1, h2, h3, h4⟩ := h
    exact ⟨f, h1, fun h => h2 (hN _ h), h3, fun c hc => (h4 c hc).mono fun k hT => TrieR.less hN n (l + 1) k _ hT⟩
theorem TrieR.below {n l b : Nat} {ps : List Pr} (h : TrieR H N w n l b ps) (hb : Below w.heap.size w w') : TrieR H N w' n l b ps := TrieR.keepN (fun b hl _ => hb.block b hl) n l b ps h
end
theorem wpList_runAt {P : Program} {ops : Array Oper} {rest : List Oper} {o : Oper} {a : Act} {w : World} {Q : Exit → Act → World → Prop} (hg : o.guard = none) (dst : Option Tmp) (hdst : o.dst = dst)
    (v : Value) (w' : World) (hrun : (execOp a.eval o).run P w = .ok (.value v) w')
    (h : wpList P ops Q rest (a.put dst v) w') : wpList P ops Q (o :: rest) a w := by
  subst hdst
  refine wpList_plain hg fun K hK => ?_
  unfold Oper.wp
  rw [hrun]
  exact hK _ _ h
theorem build133n (ev : Operand → Value) (o : Oper) (w : World) (ho : o.op = .build 60 #[]) :
    (execOp ev o).run Tryz.prog w = .ok (.value (.agg (rcs (rb0 false (.slice none 0 0))).toArray)) w := by
  unfold execOp
  simp only [ho, List.map_toArray, List.map_cons, List.map_nil]
  clear ho
  kernel_rfl
theorem build133 (ev : Operand → Value) (o : Oper) (s t : Operand) (A : Option Addr) (n c : Nat) (w : World) (ho : o.op = .build 60 #[(0, s), (1, t)]) (hs : ev s = .bool true) (ht : ev t = .slice A n c) :
    (execOp ev o).run Tryz.prog w = .ok (.value (.agg (rcs (rb0 true (.slice A n c))).toArray)) w := by
  unfold execOp
  simp only [ho, List.map_toArray, List.map_cons, List.map_nil, hs, ht]
  clear ho hs ht
  kernel_rfl
theorem box133 (ev : Operand → Value) (o : Oper) (s : Operand) (f : Nat → Value) (w : World) (ho : o.op = .box 60 s) (hs : ev s = .agg (rcs f).toArray) :
    (execOp ev o).run Tryz.prog w = .ok (.value (.pointer (some ⟨w.heap.size, 0, none⟩))) (w.alloc (.cells (rcs f).toArray 60)) := by
  unfold execOp
  simp only [ho, hs]
  clear ho hs
  kernel_rfl
theorem RB.new (w : World) (f : Nat → Value) : RB (w.alloc (.cells (rcs f).toArray 60)) w.heap.size f := Blk.new w 60 _
end Go.Proofs.YtchimfgbdfmegaaGreat
/- The reference's numbers, texts and pairs as bytes. -/
namespace Go.Proofs.YtchimfgbdfmegaaGreat
open Go.RowKit Go.Lib
set_option linter.unusedVariables false
set_option linter.unusedSimpArgs false
set_option maxRecDepth 100000
attribute [local irreducible] cnt
/-- what a call that makes bytes of its own leaves -/
def MadeB (L : List Nat) (w : World) (e : Ending) (w' : World) : Prop := ∃ v, e = .returned v ∧ OwnB w.heap.size w' v L ∧ Below w.heap.size w w'
theorem build2 (ev : Operand → Value) (o : Oper) (s t : Operand) (a b : Int) (w : World) (ho : o.op = .buildSlice 34 2 #[(0, s), (1, t)]) (hs : ev s = .int .u8 a) (ht : ev t = .int .u8 b) :
    (execOp ev o).run Tryz.prog w = .ok (.value (.slice (some ⟨w.heap.size, 0, none⟩) 2 2)) (w.alloc (.cells #[.int .u8 a, .int .u8 b] 5)) := by
  unfold execOp
  simp only [ho, List.map_toArray, List.map_cons, List.map_nil, hs, ht]
  kernel_rfl
theorem build4 (ev : Operand → Value) (o : Oper) (s t u v : Operand) (a b c d : Int) (w : World) (ho : o.op = .buildSlice 34 4 #[(0, s), (1, t), (2, u), (3, v)]) (hs : ev s = .int .u8 a) (ht : ev t = .int .u8 b) (hu : ev u = .int .u8 c) (hv : ev v = .int .u8 d) :
    (execOp ev o).run Tryz.prog w = .ok (.value (.slice (some ⟨w.heap.size, 0, none⟩) 4 4)) (w.alloc (.cells #[.int .u8 a, .int .u8 b, .int .u8 c, .int .u8 d] 5)) := by
  unfold execOp
  simp only [ho, List.map_toArray, List.map_cons, List.map_nil, hs, ht, hu, hv]
  kernel_rfl
/-- a row that was just made, whole -/
theorem OwnB.new {base : Nat} {w : World} {L : List Nat} {cs : Array Value} {n : Nat} (hb : base ≤ w.heap.size) (hn : L.length = n) (hm : n ≤ maxLen) (he : cs.toList = ubs L) : OwnB base (w.alloc (.cells cs 5)) (.slice (some ⟨w.heap.size, 0, none⟩) n n) L := by
  subst hn
  refine ⟨by rw [ubs_len]; simp, .inr ⟨w.heap.size, L.length, cs, rfl, hb, heap_alloc_new w _, Nat.le_refl _, hm, ?_, ?_⟩⟩
  · have := congrArg List.length he
    rw [ubs_len] at this
    simpa using this
  · rw [he, Nat.mul_one, ← ubs_len, List.take_length]
theorem refTwo_any (n : Nat) (w : World) (hn : n < 9223372036854775808) : Calls Tryz.prog 32 #[.int .i64 n] w (MadeB (twoB n) w) := by
  have e1 : ((n : Int) % 256) = ((n % 256 : Nat) : Int) := by omega
  have e2 : ((n : Int) / 256 % 256) = ((n / 256 % 256 : Nat) : Int) := by omega
  have HE := Lib.hid (⟨e1, e2⟩ : ((n : Int) % 256) = ((n % 256 : Nat) : Int) ∧ ((n : Int) / 256 % 256) = ((n / 256 % 256 : Nat) : Int))
  clear e1 e2
  go_enter Tryz.func32, Tryz.ntmps32
  go_wp2_with (with_reducible refine wpList_runAt rfl _ rfl _ _ (build2 _ _ _ _ _ _ _ rfl rfl rfl) ?_)
  go_ret
  refine ⟨_, rfl, OwnB.new (Nat.le_refl _) rfl (by unfold maxLen; omega) ?_, (Below.refl _ w).alloc (Nat.le_refl _) _⟩
  rw [HE.out.1, HE.out.2]
  rfl
theorem refFour_any (n : Nat) (w : World) (hn : n < 4294967296) : Calls Tryz.prog 34 #[.int .u32 n] w (MadeB (fourB n) w) := by
  have HE := Lib.hid (⟨by omega, by omega, by omega, by omega⟩ : ((n : Int) % 256) = ((n % 256 : Nat) : Int) ∧ ((n : Int) / 256 % 256) = ((n / 256 % 256 : Nat) : Int) ∧ ((n : Int) / 65536 % 256) = ((n / 65536 % 256 : Nat) : Int) ∧ ((n : Int) / 16777216) = ((n / 16777216 % 256 : Nat) : Int))
  go_enter Tryz.func34, Tryz.ntmps34
  go_wp2_with (with_reducible refine wpList_runAt rfl _ rfl _ _ (build4 _ _ _ _ _ _ _ _ _ _ _ rfl rfl rfl rfl rfl) ?_)
  go_ret
  refine ⟨_, rfl, OwnB.new (Nat.le_refl _) rfl (by unfold maxLen; omega) ?_, (Below.refl _ w).alloc (Nat.le_refl _) _⟩
  rw [HE.out.1, HE.out.2.1, HE.out.2.2.1, HE.out.2.2.2]
  rfl
theorem below_conv (w : World) (s : ByteArray) : Below w.heap.size w (bytesWorld w 5 s) := ⟨rfl, rfl, rfl, by rw [bytesWorld_size]; omega, fun i hi => bytesWorld_at_old w 5 s i hi⟩
theorem strB_get (s : ByteArray) (j : Nat) (h : j < s.size) : (strB s)[j]? = some (s.data.toList.getD j 0).toNat := by
  unfold strB
  have hl : j < s.data.toList.length := h
  rw [List.getElem?_map, List.getElem?_eq_getElem hl, Option.map_some, List.getD_eq_getElem?_getD, List.getElem?_eq_getElem hl, Option.getD_some]
set_option maxHeartbeats 4000000 in
theorem refText_any (s : ByteArray) (w : World) (hs : s.size ≤ 1000000) : Calls Tryz.prog 60 #[.string s] w (MadeB (textB s) w) := by
  obtain ⟨i5, hi5, hy50, hy51, hy52⟩ := info_parts info5
  have kt := refTwo_any s.size w (by omega)
  have L1 : IntKind.i64.wrap (s.size : Int) = (s.size : Int) := by rw [IntWalk.i64_in _ (by omega)]
  go_enter Tryz.func60, Tryz.ntmps60
  go_wp2_with fail
  refine kt.mono ?_
  rintro e w1 ⟨v1, rfl, ho, hB⟩
  have hcv : (convert 9 34 (.string s)).run Tryz.prog w1 = .ok (.slice (some ⟨w1.heap.size, 0, none⟩) s.size (grownCap w1 s.size 0 5)) (bytesWorld w1 5 s) := Go.Lib.run_convert_string_bytes w1 9 34 5 s Tryz.underlying9 Tryz.underlying34 Tryz.underlying5
  have hBc := below_conv w1 s
  have hrow : (bytesWorld w1 5 s).ownsRow w.heap.size 5 1 v1 2 (ubs (twoB s.size)) := own_keep ho (Keep.of_below (X := []) hBc) (by simp)
  have hnews : ∀ j u, (ubs (strB s))[j]? = some u → (bytesWorld w1 5 s).cell? ((⟨w1.heap.size, 0, none⟩ : Addr).add j) = some u := fun j u hu => by
    have hadd : (⟨w1.heap.size, 0, none⟩ : Addr).add j = ⟨w1.heap.size, j, none⟩ := by unfold Addr.add; split <;> simp_all
    have hj : j < s.size := by
      have := (List.getElem?_eq_some_iff.1 hu).1
      rwa [ubs_len, strB_len] at this
    rw [hadd, bytesWorld_cell w1 5 s j hj]
    unfold ubs at hu
    rw [List.getElem?_map, strB_get s j hj] at hu
    simpa using hu
  have hsz := Nat.le_trans hB.size hBc.size
  have HB := Lib.hid (hB.trans (hBc.mono hB.size))
  have hone : ∀ u ∈ ubs (strB s), u.oneCell' = true := fun u hu => by
    unfold ubs at hu
    obtain ⟨n, _, rfl⟩ := List.mem_map.1 hu
    rfl
  have hlen : (ubs (strB s)).length = s.size * 1 := by rw [ubs_len, strB_len]; omega
  clear kt ho hB hBc
  go_wp2_with (at_builtin; refine wpList_append_own_at _ rfl _ _ 34 rfl w.heap.size 5 i5 _ 1 1 Tryz.underlying34 hi5 hy50 hy51 hy52 zsz_u8 (by decide) _ _ _ rfl hrow ⟨w1.heap.size, 0, none⟩ s.size _ (ubs (strB s)) rfl hlen hnews hone (by unfold maxLen; omega) (by omega) hsz ?_; intro v' wa hown' hgrow hnil hat)
  replace hgrow : (bytesWorld w1 5 s).grownBy wa v1.ownBlock := hgrow
  go_ret
  refine ⟨_, rfl, ?_, HB.out.grown hgrow hsz (own_ge hrow)⟩
  unfold OwnB textB
  rw [List.length_append, strB_len, ubs_app]
  exact hown'
end Go.Proofs.YtchimfgbdfmegaaGreat
/- The reference's pairs as bytes. -/
namespace Go.Proofs.YtchimfgbdfmegaaGreat
open Go.RowKit Go.Lib
set_option linter.unusedVariables false
set_option linter.unusedSimpArgs false
set_option maxRecDepth 100000
attribute [local irreducible] cnt
theorem ubs_one {L : List Nat} : ∀ u ∈ ubs L, u.oneCell' = true := fun u hu => by
  unfold ubs at hu
  obtain ⟨n, _, rfl⟩ := List.mem_map.1 hu
  rfl
theorem pairsB_bound : ∀ (ps : List Pr) (n : Nat), (∀ p ∈ ps, p.1.size ≤ 1000000 ∧ p.2.size ≤ 1000000) → ps.length ≤ n → (pairsB ps).length ≤ n * 2000004
  | [], n, _, _ => by simp [pairsB]
  | p :: ps, 0, _, h => by simp at h
  | p :: ps, n + 1, h, hl => by
    have h1 := h p (by simp)
    have h2 := pairsB_bound ps n (fun x hx => h x (by simp [hx])) (by simpa using hl)
    simp only [pairsB, List.flatMap_cons, List.length_append, pairB_len] at h2 ⊢
    omega
set_option maxHeartbeats 16000000 in
theorem refPairs_any (A : Option Addr) (c : Nat) (ps : List Pr) (w : World) (hR : Rd w A ps) (hn : ps.length ≤ 1000) (hs : ∀ p ∈ ps, p.1.size ≤ 1000000 ∧ p.2.size ≤ 1000000) :
    Calls Tryz.prog 33 #[.slice A ps.length c] w (MadeB (pairsB ps) w) := by
  obtain ⟨i5, hi5, hy50, hy51, hy52⟩ := info_parts info5
  have HR := Lib.hid hR
  have Hs := Lib.hid hs
  clear hR hs
  go_enter Tryz.func33, Tryz.ntmps33
  go_wp2_with fail
  go_loopw [3, 8] (fun v3 vi wr => ∃ j : Nat, j ≤ ps.length ∧ vi = .int .i64 j ∧ OwnB w.heap.size wr v3 (pairsB (ps.take j)) ∧ Below w.heap.size w wr) (fun v3 vi wr => ps.length - (intOf vi).toNat)
  case atStart => exact ⟨0, by omega, rfl, by simpa [pairsB] using OwnB.nil _ _, Below.refl _ _⟩
  case round =>
    obtain ⟨j, hj, rfl, ho, hB⟩ := hrel
    by_cases hlt : j < ps.length
    · obtain ⟨g, off, rfl, c0, c1⟩ := (HR.out.below hB) j ps[j] (List.getElem?_eq_getElem hlt)
      have HFT := Lib.hid (flatM_take pairB ps j hlt)
      have hps := Hs.out ps[j] (List.getElem_mem hlt)
      have hlen : (pairsB (ps.take j)).length ≤ j * 2000004 := pairsB_bound _ _ (fun p hp => Hs.out p (List.mem_of_mem_take hp)) (by rw [List.length_take]; omega)
      have hlen2 : j * 2000004 ≤ 1000 * 2000004 := Nat.mul_le_mul_right _ (by omega)
      generalize ps[j] = p at *
      have L1' : (j : Int) < (ps.length : Int) := by omega
      have L2' : IntKind.i64.wrap ((j : Int) + 1) = ((j + 1 : Nat) : Int) := by rw [IntWalk.i64_in _ (by omega)]; omega
      go_upto_region 5 with (fail)
      have hBl := (Below.refl _ wr).alloc (Nat.le_refl _) (.cells #[.string p.1, .string p.2] 55)
      have hP := Blk.new wr 55 #[.string p.1, .string p.2]
      have ho := ho.below hBl
      have hB := hB.trans (hBl.mono hB.size)
      clear hBl c0 c1
      generalize wr.alloc (.cells #[.string p.1, .string p.2] 55) = W3 at *
      generalize wr.heap.size = N5 at *
      have hdr : Below W3.heap.size W3 W3.drew := (Below.refl _ W3).drew
      have hS0 : (fun w' : World => w'.cell? ⟨N5, 0, none⟩ = some (.string p.1) ∧ w'.cell? ⟨N5, 1, none⟩ = some (.string p.2)) W3.drew := ⟨hP.cell 0, hP.cell 1⟩
      have ho := ho.below hdr
      have hP := hP.below hdr
      have hB := hB.drew
      have kt1 := fun w' => refText_any p.1 w' hps.1
      have kt2 := fun w' => refText_any p.2 w' hps.2
      have hl1 : (pairsB (ps.take j) ++ textB p.1).length ≤ 1000 * 2000004 + 1000002 := by rw [List.length_append, textB_len]; omega
      clear hdr
      refine wp_region_held_drew (S := fun w' : World => w'.cell? ⟨N5, 0, none⟩ = some (.string p.1) ∧ w'.cell? ⟨N5, 1, none⟩ = some (.string p.2)) (by kernel_rfl) hS0 ?_
      intro hS
      refine wpAnyH_take (i := 0) (oi := { dst := some 12, op := Go.Op.move (Go.Operand.tmp 3), type := 34, pos := "ref.go:23", after := #[], guard := none }) (v := u3) rfl (by kernel_rfl) (by kernel_rfl) (by kernel_rfl) (fun _ _ _ h => h) (Or.inl ⟨by rfl, fun w hSw => ?_⟩) hS ?_
      · go_split_ands
        go_simp
      try simp only [Act.put, List.setIfInBounds_toArray, List.set_cons_zero, List.set_cons_succ]
      refine wpAnyH_take (i := 1) (oi := { dst := some 13, op := Go.Op.fieldAddr 55 (Go.Operand.tmp 5) 0, type := 0, pos := "ref.go:23", after := #[], guard := none }) (v := .pointer (some ⟨N5, 0, none⟩)) rfl (by kernel_rfl) (by kernel_rfl) (by kernel_rfl) (fun _ _ _ h => h) (Or.inl ⟨by rfl, fun w hSw => ?_⟩) hS ?_
      · go_split_ands
        go_simp
      try simp only [Act.put, List.setIfInBounds_toArray, List.set_cons_zero, List.set_cons_succ]
      refine wpAnyH_take (i := 2) (oi := { dst := some 14, op := Go.Op.load 9 (Go.Operand.tmp 13), type := 9, pos := "ref.go:23", after := #[{ on := 1, ground := Go.Ground.data }], guard := none }) (v := .string p.1) rfl (by kernel_rfl) (by kernel_rfl) (by kernel_rfl) (fun _ _ _ h => h) (Or.inl ⟨by rfl, fun w hSw => ?_⟩) hS ?_
      · go_split_ands
        go_simp
      try simp only [Act.put, List.setIfInBounds_toArray, List.set_cons_zero, List.set_cons_succ]
      refine wpAnyH_take (i := 5) (oi := { dst := some 17, op := Go.Op.fieldAddr 55 (Go.Operand.tmp 5) 1, type := 0, pos := "ref.go:23", after := #[], guard := none }) (v := .pointer (some ⟨N5, 1, none⟩)) rfl (by kernel_rfl) (by kernel_rfl) (by kernel_rfl) (fun _ _ _ h => h) (Or.inl ⟨by rfl, fun w hSw => ?_⟩) hS ?_
      · go_split_ands
        go_simp
      try simp only [Act.put, List.setIfInBounds_toArray, List.set_cons_zero, List.set_cons_succ]
      refine wpAnyH_take (i := 6) (oi := { dst := some 18, op := Go.Op.load 9 (Go.Operand.tmp 17), type := 9, pos := "ref.go:23", after := #[{ on := 5, ground := Go.Ground.data }], guard := none }) (v := .string p.2) rfl (by kernel_rfl) (by kernel_rfl) (by kernel_rfl) (fun _ _ _ h => h) (Or.inl ⟨by rfl, fun w hSw => ?_⟩) hS ?_
      · go_split_ands
        go_simp
      try simp only [Act.put, List.setIfInBounds_toArray, List.set_cons_zero, List.set_cons_succ]
      refine wpAnyH_ready (rs := [3]) (by kernel_rfl) (by simp) ?_
      refine AllReadyH.cons (o := { dst := some 15, op := Go.Op.call { callee := Go.Callee.value (Go.Operand.func 60), args := #[Go.Operand.tmp 14], argTypes := #[9] }, type := 34, pos := "ref.go:23", after := #[{ on := 2, ground := Go.Ground.data }], guard := none }) rfl (fun K hK => ?_) AllReadyH.nil
      go_simp
      refine (kt1 _).mono ?_
      rintro e wA ⟨s1, rfl, hos1, hBs1⟩
      go_wp2_with fail
      have hP := hP.below hBs1
      have hSn : (fun w' : World => w'.cell? ⟨N5, 0, none⟩ = some (.string p.1) ∧ w'.cell? ⟨N5, 1, none⟩ = some (.string p.2)) wA := ⟨hP.cell 0, hP.cell 1⟩
      have ho := ho.below hBs1
      have hB := hB.trans (hBs1.mono hB.size)
      obtain ⟨g1, q1, cur1, es1, -, -, -, -, -, -⟩ := own_blk hos1 (by rw [textB_len]; omega)
      subst es1
      refine hK.out _ _ hSn (fun _ => ?_)
      clear hK K hS
      try simp only [Act.put, List.setIfInBounds_toArray, List.set_cons_zero, List.set_cons_succ]
      have hS := hSn
      clear hSn hBs1
      refine wpAnyH_ready (rs := [4]) (by kernel_rfl) (by simp) ?_
      refine AllReadyH.cons (o := { dst := some 16, op := Go.Op.call { callee := Go.Callee.builtin Go.Builtin.append, args := #[Go.Operand.tmp 12, Go.Operand.tmp 15], argTypes := #[34, 34] }, type := 34, pos := "ref.go:23", after := #[{ on := 0, ground := Go.Ground.data }, { on := 3, ground := Go.Ground.data }, { on := 3, ground := Go.Ground.chain }], guard := none }) rfl (fun K hK => ?_) AllReadyH.nil
      refine step_append_lies _ (by rfl) _ _ _ (by rfl) w.heap.size 5 i5 _ 1 1 Tryz.underlying34 hi5 hy50 hy51 hy52 zsz_u8 (by decide) u3 (pairsB (ps.take j)).length (ubs (pairsB (ps.take j))) (by rfl) ho ⟨g1, 0, none⟩ (textB p.1).length q1 (ubs (textB p.1)) (by rfl) (by rw [ubs_len]; omega) (World.ownsRow.cells (show World.ownsRow _ _ _ _ _ _ _ from hos1) rfl) ubs_one (by rw [textB_len]; omega) (by rw [textB_len]; unfold maxLen; omega) (by rw [textB_len]; omega) hB.size _ rfl ?_
      intro gn1 cn1 wB hown1 hgrow1 hat1 hlt1
      have hP := (K5.grown ho hgrow1).blk hP (by decide)
      have hSn : (fun w' : World => w'.cell? ⟨N5, 0, none⟩ = some (.string p.1) ∧ w'.cell? ⟨N5, 1, none⟩ = some (.string p.2)) wB := ⟨hP.cell 0, hP.cell 1⟩
      have hB := hB.grown hgrow1 hB.size (own_ge ho)
      have ho : OwnB w.heap.size wB (.slice (some ⟨gn1, 0, none⟩) ((pairsB (ps.take j)).length + (textB p.1).length) cn1) (pairsB (ps.take j) ++ textB p.1) := by
        unfold OwnB
        rw [show (pairsB (ps.take j) ++ textB p.1).length = (pairsB (ps.take j)).length + (textB p.1).length from List.length_append, ubs_app]
        exact hown1
      refine hK.out _ _ hSn (fun _ => ?_)
      clear hK K hS hos1 hown1 hgrow1 hat1 hlt1
      try simp only [Act.put, List.setIfInBounds_toArray, List.set_cons_zero, List.set_cons_succ]
      have hS := hSn
      clear hSn
      refine wpAnyH_ready (rs := [7]) (by kernel_rfl) (by simp) ?_
      refine AllReadyH.cons (o := { dst := some 19, op := Go.Op.call { callee := Go.Callee.value (Go.Operand.func 60), args := #[Go.Operand.tmp 18], argTypes := #[9] }, type := 34, pos := "ref.go:23", after := #[{ on := 6, ground := Go.Ground.data }, { on := 4, ground := Go.Ground.chain }], guard := none }) rfl (fun K hK => ?_) AllReadyH.nil
      go_simp
      refine (kt2 _).mono ?_
      rintro e wC ⟨s2, rfl, hos2, hBs2⟩
      go_wp2_with fail
      have hP := hP.below hBs2
      have hSn : (fun w' : World => w'.cell? ⟨N5, 0, none⟩ = some (.string p.1) ∧ w'.cell? ⟨N5, 1, none⟩ = some (.string p.2)) wC := ⟨hP.cell 0, hP.cell 1⟩
      have ho := ho.below hBs2
      have hB := hB.trans (hBs2.mono hB.size)
      obtain ⟨g2, q2, cur2, es2, -, -, -, -, -, -⟩ := own_blk hos2 (by rw [textB_len]; omega)
      subst es2
      refine hK.out _ _ hSn (fun _ => ?_)
      clear hK K hS
      try simp only [Act.put, List.setIfInBounds_toArray, List.set_cons_zero, List.set_cons_succ]
      have hS := hSn
      clear hSn hBs2
      refine wpAnyH_ready (rs := [8]) (by kernel_rfl) (by simp) ?_
      refine AllReadyH.cons (o := { dst := some 20, op := Go.Op.call { callee := Go.Callee.builtin Go.Builtin.append, args := #[Go.Operand.tmp 16, Go.Operand.tmp 19], argTypes := #[34, 34] }, type := 34, pos := "ref.go:23", after := #[{ on := 4, ground := Go.Ground.data }, { on := 7, ground := Go.Ground.data }, { on := 7, ground := Go.Ground.chain }], guard := none }) rfl (fun K hK => ?_) AllReadyH.nil
      refine step_append_lies _ (by rfl) _ _ _ (by rfl) w.heap.size 5 i5 _ 1 1 Tryz.underlying34 hi5 hy50 hy51 hy52 zsz_u8 (by decide) (.slice (some ⟨gn1, 0, none⟩) ((pairsB (ps.take j)).length + (textB p.1).length) cn1) (pairsB (ps.take j) ++ textB p.1).length (ubs (pairsB (ps.take j) ++ textB p.1)) (by rfl) ho ⟨g2, 0, none⟩ (textB p.2).length q2 (ubs (textB p.2)) (by rfl) (by rw [ubs_len]; omega) (World.ownsRow.cells (show World.ownsRow _ _ _ _ _ _ _ from hos2) rfl) ubs_one (by rw [textB_len]; omega) (by rw [textB_len]; unfold maxLen; omega) (by rw [textB_len]; omega) hB.size _ rfl ?_
      intro gn2 cn2 wD hown1 hgrow1 hat1 hlt1
      have hP := (K5.grown ho hgrow1).blk hP (by decide)
      have hSn : (fun w' : World => w'.cell? ⟨N5, 0, none⟩ = some (.string p.1) ∧ w'.cell? ⟨N5, 1, none⟩ = some (.string p.2)) wD := ⟨hP.cell 0, hP.cell 1⟩
      have hB := hB.grown hgrow1 hB.size (own_ge ho)
      have ho : OwnB w.heap.size wD (.slice (some ⟨gn2, 0, none⟩) ((pairsB (ps.take j) ++ textB p.1).length + (textB p.2).length) cn2) (pairsB (ps.take j) ++ textB p.1 ++ textB p.2) := by
        unfold OwnB
        rw [show (pairsB (ps.take j) ++ textB p.1 ++ textB p.2).length = (pairsB (ps.take j) ++ textB p.1).length + (textB p.2).length from List.length_append, ubs_app]
        exact hown1
      refine hK.out _ _ hSn (fun _ => ?_)
      clear hK K hS hos2 hown1 hgrow1 hat1 hlt1
      try simp only [Act.put, List.setIfInBounds_toArray, List.set_cons_zero, List.set_cons_succ]
      have hS := hSn
      clear hSn
      refine wpAnyH_take (i := 9) (oi := { dst := some 3, op := Go.Op.assign (Go.Operand.tmp 20), type := 34, pos := "ref.go:23", after := #[{ on := 8, ground := Go.Ground.data }, { on := 8, ground := Go.Ground.chain }, { on := 0, ground := Go.Ground.phase }, { on := 1, ground := Go.Ground.phase }, { on := 2, ground := Go.Ground.phase }, { on := 3, ground := Go.Ground.phase }, { on := 4, ground := Go.Ground.phase }, { on := 5, ground := Go.Ground.phase }, { on := 6, ground := Go.Ground.phase }, { on := 7, ground := Go.Ground.phase }, { on := 8, ground := Go.Ground.phase }], guard := none }) (v := .slice (some ⟨gn2, 0, none⟩) ((pairsB (ps.take j) ++ textB p.1).length + (textB p.2).length) cn2) rfl (by kernel_rfl) (by kernel_rfl) (by kernel_rfl) (fun _ _ _ h => h) (Or.inl ⟨by rfl, fun w hSw => ?_⟩) hS ?_
      · go_split_ands
        go_simp
      try simp only [Act.put, List.setIfInBounds_toArray, List.set_cons_zero, List.set_cons_succ]
      refine wpAnyH_done (by kernel_rfl) ?_ _

      clear hS kt1 kt2 hP
      go_wp2_with fail
      refine ⟨⟨j + 1, by omega, by go_num, ?_, hB⟩, by simp [intOf]; omega⟩
      have e1 : pairsB (ps.take (j + 1)) = pairsB (ps.take j) ++ textB p.1 ++ textB p.2 := by
        unfold pairsB
        rw [HFT.out]
        simp [pairB]
      rw [e1]
      exact ho
    · obtain rfl : j = ps.length := by omega
      have G : ¬ ((ps.length : Int) < (ps.length : Int)) := by omega
      rw [List.take_length] at ho
      go_wp2_with fail
      go_ret
      exact ⟨_, rfl, ho, hB⟩
end Go.Proofs.YtchimfgbdfmegaaGreat
/- Same of the reference of layer 7. -/
namespace Go.Proofs.YtchimfgbdfmegaaGreat
open Go.RowKit Go.Lib
set_option linter.unusedVariables false
set_option linter.unusedSimpArgs false
set_option maxRecDepth 100000
attribute [local irreducible] cnt
theorem take_step {L M : List Nat} {k : Nat} (hl : L.length = M.length) (hk : k < L.length) (h : L.take k = M.take k) (he : L[k]? = M[k]?) : L.take (k + 1) = M.take (k + 1) := by
  rw [List.take_add_one, List.take_add_one, h, he]
theorem OwnB.drewN {base : Nat} {w : World} {v : Value} {L : List Nat} (h : OwnB base w v L) (n : Nat) : OwnB base (w.drewN n) v L := h.below (below_drewK w n)
theorem OwnB.at {base : Nat} {w : World} {A : Option Addr} {n c : Nat} {L : List Nat} (h : OwnB base w (.slice A n c) L) (k : Nat) (hk : k < L.length) : ∃ g, A = some ⟨g, 0, none⟩ ∧ w.cell? ⟨g, k, none⟩ = some (.int .u8 (L[k] : Nat)) := by
  obtain ⟨g, cap, cur, e, -⟩ := own_blk h (by omega)
  simp only [Value.slice.injEq] at e
  obtain ⟨rfl, rfl, rfl⟩ := e
  refine ⟨g, rfl, ?_⟩
  have h' : w.ownsRow base 5 1 (.slice (some ⟨g, 0, none⟩) L.length c) L.length (ubs L) := h
  rw [h'.cellAt k (by omega)]
  simp [ubs, hk]
set_option maxHeartbeats 4000000 in
theorem refSameB_any (base base' : Nat) (v v' : Value) (L M : List Nat) (w : World) (hA : OwnB base w v L) (hB : OwnB base' w v' M) (hL : L.length ≤ 1000000000) :
    Calls Tryz.prog 10 #[v, v'] w fun e w' => e = .returned (.bool (decide (L = M))) ∧ ∃ n, w' = w.drewN n := by
  obtain ⟨A, ca, rfl⟩ := own_formN hA
  obtain ⟨B, cb, rfl⟩ := own_formN hB
  obtain ⟨n, hxs⟩ : ∃ n, n = L.length := ⟨_, rfl⟩
  obtain ⟨m, hys⟩ : ∃ m, m = M.length := ⟨_, rfl⟩
  rw [← hxs, ← hys]
  rw [← hxs] at hL hA
  rw [← hys] at hB
  have HX := Lib.hid hxs
  have HY := Lib.hid hys
  have HA := Lib.hid hA
  have HB := Lib.hid hB
  clear hxs hys hA hB
  by_cases hnm : n = m
  · subst hnm
    go_enter Tryz.func10, Tryz.ntmps10
    go_wp2_with fail
    go_loopw [13] (fun i wr => ∃ k : Nat, k ≤ n ∧ i = .int .i64 k ∧ Hid (L.take k = M.take k) ∧ ∃ q, wr = w.drewN q) (fun i wr => n - (intOf i).toNat)
    case atStart => exact ⟨0, by omega, rfl, Lib.hid rfl, 0, rfl⟩
    case round =>
      obtain ⟨k, hk, rfl, hE, q, rfl⟩ := hrel
      by_cases hlt : k < n
      · have hkL : k < L.length := by rw [← HX.out]; exact hlt
        have hkM : k < M.length := by rw [← HY.out]; exact hlt
        obtain ⟨ga, rfl, a0⟩ := (HA.out.drewN q).at k hkL
        obtain ⟨gb, rfl, b0⟩ := (HB.out.drewN q).at k hkM
        have hd : ∀ k, (w.drewN q).drewN k = w.drewN (q + k) := fun k => by simp [World.drewN, Nat.add_assoc]
        have L1' : (k : Int) < (n : Int) := by omega
        have L2' : IntKind.i64.wrap ((k : Int) + 1) = ((k + 1 : Nat) : Int) := by rw [IntWalk.i64_in _ (by omega)]; omega
        generalize hW : w.drewN q = W at *
        have HW := Lib.hid hW
        have HD := Lib.hid hd
        clear hd hW
        by_cases he : L[k] = M[k]
        · have S := Lib.hid (take_step (by rw [← HX.out, ← HY.out]) hkL hE.out (by rw [List.getElem?_eq_getElem hkL, List.getElem?_eq_getElem hkM, he]))
          rw [he] at a0
          clear he
          generalize M[k] = x at *
          go_wp2_with fail
          go_quiet (fail)
          go_wp2_with fail
          exact ⟨⟨k + 1, by omega, by go_num, S, q + nq, HD.out nq⟩, by simp [intOf]; omega⟩
        · have S : Hid (L = M → False) := Lib.hid (by rintro rfl; exact he rfl)
          have F : ¬ ((L[k] : Nat) : Int) = ((M[k] : Nat) : Int) := by omega
          clear he
          generalize M[k] = x at *
          generalize L[k] = y at *
          go_wp2_with fail
          go_quiet (fail)
          go_wp2_with fail
          go_ret
          refine ⟨?_, q + nq, HD.out nq⟩
          rw [decide_eq_false S.out]; rfl
      · obtain rfl : k = n := by omega
        go_wp2_with fail
        go_ret
        have h := hE.out
        have : L = M := by
          rw [List.take_of_length_le (by rw [← HX.out]; omega), List.take_of_length_le (by rw [← HY.out]; omega)] at h
          exact h
        refine ⟨?_, q, rfl⟩
        rw [decide_eq_true this]; rfl
  · have : ¬ L = M := by
      rintro rfl; exact hnm (HX.out.trans HY.out.symm)
    rw [decide_eq_false this]
    have F1 : ¬ ((n : Int) = (m : Int)) := by omega
    go_enter Tryz.func10, Tryz.ntmps10
    go_wp2_with fail
    go_ret
    exact ⟨rfl, 0, rfl⟩
end Go.Proofs.YtchimfgbdfmegaaGreat
