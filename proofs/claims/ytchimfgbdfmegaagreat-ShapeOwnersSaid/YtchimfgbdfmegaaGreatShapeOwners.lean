/- ShapeOwners: for every hasher and every list of pairs the law returns true: a trie that was made in place by a token looks as one that was made without one. Conditions: none beyond the given statement. -/
import Derived.Test.YtchimfgbdfmegaaGreatRows
import Derived.WalkKit
import Derived.ProofKit
import Derived.OpenShut
import Derived.ShutString
import Derived.ChangeOld
import Derived.Below
import Derived.BigQuiet
import Derived.Deep.RegionHeld3
import Derived.Carry
import Derived.Lib.SmallJoins
import Derived.Test.YtchimfgbdfmegaaGreatGas
namespace Go.Proofs.YtchimfgbdfmegaaGreat.shapeOwners
open Go.ChangeShapes Go.WideShapes Go.ChangeAt Go.RowKit Go.Joins Go.Lib
open Go.ChangeMaps (open_string shut_string)
set_option linter.unusedVariables false
set_option linter.unusedSimpArgs false
set_option maxRecDepth 100000
attribute [local irreducible] cnt

theorem own : ownKnob Tryz.prog.godebug = none := by kernel_rfl
theorem laidOut : laidOutB Tryz.prog = true := by kernel_rfl

theorem keep5 {N3 NP : Nat} {k0 k1 m : Int} {q : Pr} {w w' : World} (h : (fun w' : World => w'.cell? ⟨N3, 0, none⟩ = some (.int .u64 k0) ∧ w'.cell? ⟨N3, 1, none⟩ = some (.int .u64 k1) ∧ w'.cell? ⟨N3, 2, none⟩ = some (.int .u64 m) ∧ w'.cell? ⟨NP, 0, none⟩ = some (.string q.1) ∧ w'.cell? ⟨NP, 1, none⟩ = some (.string q.2)) w) (hB : Below w.heap.size w w') : (fun w' : World => w'.cell? ⟨N3, 0, none⟩ = some (.int .u64 k0) ∧ w'.cell? ⟨N3, 1, none⟩ = some (.int .u64 k1) ∧ w'.cell? ⟨N3, 2, none⟩ = some (.int .u64 m) ∧ w'.cell? ⟨NP, 0, none⟩ = some (.string q.1) ∧ w'.cell? ⟨NP, 1, none⟩ = some (.string q.2)) w' := by
  have f : ∀ a v, w.cell? a = some v → w'.cell? a = some v := fun a v e => (hB.cell (World.block_lt_of_cell? w _ e)).trans e
  obtain ⟨a, b, c, d, e⟩ := h
  exact ⟨f _ _ a, f _ _ b, f _ _ c, f _ _ d, f _ _ e⟩
theorem Blk.keepF {F : Nat → Prop} {w w' : World} {g : Nat} {t : TypeId} {cs : Array Value} (h : Blk w g t cs) (hk : KeepF F w w') (hF : ¬ F g) : Blk w' g t cs := (hk.block g h.lt hF).trans h
/-- what the loop has made, and its tail -/
theorem end_types {w : World} {P c T k i : Nat} {out : Int} {q : List Nat} {l : Bool} (hP : Pool w P c k out q) (hT : Tok w T P i l) : ∀ x, x ∈ [P, c, T] → ∀ t cs, Blk w x t cs → t ≠ 100 ∧ t ≠ 52 ∧ t ≠ 29 := by
  intro x hx t cs hb
  obtain ⟨hbp, s, r, hc⟩ := hP
  simp only [List.mem_cons, List.not_mem_nil, or_false] at hx
  unfold Tok at hT
  unfold Blk at hbp hT hb
  rcases hx with rfl | rfl | rfl
  · rw [hbp] at hb; simp at hb; obtain ⟨-, rfl⟩ := hb; decide
  · rw [hc] at hb; simp at hb
  · rw [hT] at hb; simp at hb; obtain ⟨-, rfl⟩ := hb; decide
set_option maxHeartbeats 16000000 in
theorem walk (k0 k1 m : Int) (a1 : Option Addr) (len1 cap1 : Nat) (ps1 : List Pr) (w : World) (h0 : U64 k0) (h1 : U64 k1) (hp1 : ArgP w a1 len1 cap1 ps1) :
    Calls Tryz.prog 6 #[.agg #[.int .u64 k0, .int .u64 k1, .int .u64 m], .slice a1 len1 cap1] w fun e w' => e = .returned (.bool true) ∧ Below w.heap.size w w' := by
  have hB0 := (Below.refl _ w).alloc (Nat.le_refl _) (.cells #[.int .u64 k0, .int .u64 k1, .int .u64 m] 26)
  have b1 := Blk.new w 26 #[.int .u64 k0, .int .u64 k1, .int .u64 m]
  have hl1 := hp1.len_le
  have HLEN := Lib.hid hp1.len
  have HA1 := Lib.hid hp1
  clear hp1
  go_enter Tryz.func6, Tryz.ntmps6
  go_upto_region 1 with (fail)
  generalize w.alloc (.cells #[.int .u64 k0, .int .u64 k1, .int .u64 m] 26) = W at *
  obtain ⟨N3, hN3⟩ : ∃ N3, N3 = w.heap.size := ⟨_, rfl⟩
  have HN3 := Lib.hid hN3
  rw [← hN3] at b1 ⊢
  clear hN3
  go_wp2_with fail
  refine (awake_any _).mono ?_
  rintro e w1 ⟨rfl, hB1⟩
  have hH := b1.below hB1
  have hB := hB0.trans (hB1.mono hB0.size)
  clear b1 hB1 hB0
  go_wp2_with fail
  refine (new_is 1 _ (by omega) (by omega)).mono ?_
  rintro e w2 ⟨P, c, rfl, hPo, hbP, hbc, hB2⟩
  have hH := hH.below hB2
  have hbP := Nat.le_trans hB.size hbP
  have hbc := Nat.le_trans hB.size hbc
  have hB := hB.trans (hB2.mono hB.size)
  have hu : upto 1 = [1] := rfl
  rw [hu] at hPo
  have kt := take_is P c 1 0 1 [] w2 hPo (by omega)
  have hbT0 := hB.size
  unfold at0 at kt ⊢
  clear hB2 hu
  go_wp2_with fail
  refine kt.mono ?_
  rintro e w3 ⟨T, rfl, hPo3, hTk, hbT, hK3⟩
  have hH := hH.keep hK3 (fun hm => by
    obtain ⟨hbp, s, r, hc⟩ := hPo
    unfold Blk at hbp hH
    simp only [List.mem_cons, List.not_mem_nil, or_false] at hm
    rcases hm with rfl | rfl
    · rw [hbp] at hH; simp at hH
    · rw [hc] at hH; simp at hH)
  have hB := hB.trans (hK3.below hB.size (by simp; exact ⟨hbP, hbc⟩))
  have hbT := Nat.le_trans hbT0 hbT
  have hPo := hPo3
  clear kt hK3 hbT0 hPo3
  have s0 : w3.cell? ⟨N3, 0, none⟩ = some (.int .u64 k0) := hH.cell 0
  have s1 : w3.cell? ⟨N3, 1, none⟩ = some (.int .u64 k1) := hH.cell 1
  have s2 : w3.cell? ⟨N3, 2, none⟩ = some (.int .u64 m) := hH.cell 2

  have kt := trie_law (fun x => x = T) k0 k1 m h0 h1 a1 len1 cap1 ps1 w3 (fun x hx => by subst hx; exact hTk.lt) (HA1.out.below (hB.mono (Nat.le_refl _)))
  unfold TrieP at kt
  unfold at0
  go_wp2_with fail
  refine kt.mono ?_
  rintro e w4 ⟨bn, vx, rfl, hTn, hOx, hB4⟩
  have hH := hH.below hB4
  have hPo := hPo.keep (Keep.of_below (X := []) hB4) (by simp) (by simp)
  have hTk := hTk.keep (Keep.of_below (X := []) hB4) (by simp)
  have hB := hB.trans (hB4.mono hB.size)
  obtain ⟨Ax, cx, rfl, -⟩ := hOx.rd
  clear kt s0 s1 s2 hB4 hOx
  generalize w3.heap.size = na at *
  have ke := empty_X (base := w.heap.size) (X := fun x => x = T) k0 k1 m hB.size (fun x hx => by subst hx; exact hTk.lt)
  go_wp2_with fail
  refine ke.mono ?_
  rintro e w5 ⟨bm, rfl, hTm, hB5⟩
  have hH := hH.below hB5
  have hPo := hPo.keep (Keep.of_below (X := []) hB5) (by simp) (by simp)
  have hTk := hTk.keep (Keep.of_below (X := []) hB5) (by simp)
  have hTn := TX.below hTn hB5
  have hB := hB.trans (hB5.mono hB.size)
  clear ke hB5
  have hTn : TX (fun x => x = T ∨ w5.heap.size ≤ x) k0 k1 m na w5 bn (trieL ps1) := TX.set hTn (fun x hx => by
    rcases hx with h | h
    · exact .inl h
    · exact .inr (.inl h))
  have hTr := Trie.alive (T := T) (X := fun x => w5.heap.size ≤ x) (X0 := fun x => x = T) rfl (fun x hx => .inr hx) _ _ _ _ _ hTm
  have hTl := hTk.lt
  have hv := TV.tok hTk
  have hN3l := hH.lt
  obtain ⟨nb, hnb⟩ : ∃ nb, nb = w5.heap.size := ⟨_, rfl⟩
  rw [← hnb] at hTn hTr hTl hN3l
  have hnb' : w.heap.size ≤ nb := by rw [hnb]; exact hB.size
  have HPO := Lib.hid hPo
  have HTK := Lib.hid hTk
  have HBW := Lib.hid hB
  have hBS : Below nb w5 w5 := Below.refl _ _
  have HNB := Lib.hid hnb
  clear hTm hPo hTk hB hnb
  go_wp2_with fail
  go_loopw [11, 35] (fun v11 vi wr => ∃ (j bq : Nat) (F : Nat → Prop), j ≤ len1 ∧ vi = .int .i64 j ∧ v11 = .pointer (some ⟨bq, 0, none⟩) ∧ Trie (hz k0 k1 m) (fun x => nb ≤ x) (some T) true w.heap.size wr 13 0 bq (tl ps1 (min j 30)) F ∧ (∀ x, F x → nb ≤ x) ∧ TX (fun x => x = T ∨ nb ≤ x) k0 k1 m na wr bn (trieL ps1) ∧ TV wr (some T) true ∧ Blk wr N3 26 #[.int .u64 k0, .int .u64 k1, .int .u64 m] ∧ Below nb w5 wr) (fun v11 vi wr => len1 - (intOf vi).toNat)
  case atStart => exact ⟨0, bm, _, by omega, rfl, rfl, hTr, fun _ h => h.elim, hTn, hv, hH, hBS⟩
  case round =>
    clear hTr hTn hv hH hBS
    obtain ⟨j, bq, F, hj, rfl, rfl, hTr, hFS, hTn, hv, hH, hBS⟩ := hrel
    by_cases hlt : j < len1
    · obtain ⟨x, hlp, rfl, c0, c1⟩ := HA1.out.atL (HBW.out.trans ((hBS.mono (by rw [HNB.out]; exact Nat.le_refl _)).mono HBW.out.size)) j hlt
      have L1 : (j : Int) < (len1 : Int) := by omega
      have L2 : IntKind.i64.wrap ((j : Int) + 1) = ((j + 1 : Nat) : Int) := by rw [IntWalk.i64_in _ (by omega)]; omega
      obtain ⟨hrX, hlX, hsX⟩ := tl_good ps1 (min j 30)
      go_upto_region 10 with (fail)
      have hBl := (Below.refl _ wr).alloc (Nat.le_refl _) (.cells #[.string ps1[j].1, .string ps1[j].2] 52)
      have hP := Blk.new wr 52 #[.string ps1[j].1, .string ps1[j].2]
      have hFN : ∀ x, F x → x < wr.heap.size := fun x hx => (Trie.blocks _ _ _ _ _ hTr x hx).2.1
      have hH := hH.below hBl
      have hTn := TX.below hTn hBl
      have hTr := Trie.below hTr hBl
      have hv := hv.below hBl
      have hBS := hBS.trans (hBl.mono (Nat.le_trans (Nat.le_of_eq HNB.out) hBS.size))
      clear hBl c0 c1
      generalize wr.alloc (.cells #[.string ps1[j].1, .string ps1[j].2] 52) = W3 at *
      generalize wr.heap.size = NP at *
      by_cases h25 : j < 30
      · have G : (j : Int) < 30 := by omega
        have HS : Hid (tl ps1 (min (j + 1) 30) = putK (tl ps1 (min j 30)) (few40 ps1[j])) := Lib.hid (by rw [Nat.min_eq_left (by omega), Nat.min_eq_left (by omega)]; exact tl_succ hlp)
        have hlX' : (tl ps1 (min j 30)).length ≤ 30 := by omega
        have kfew := fun w' => few_any ps1[j] w'
        have hp1 : (few40 ps1[j]).1.size ≤ 40 := cut40_size _
        clear hlX
        generalize tl ps1 (min j 30) = Y at *
        generalize few40 ps1[j] = p at *
        generalize ps1[j] = q at *
        have hp1000 : p.1.size ≤ 1000 := by omega
        have kp := fun w' (hb : Below nb w5 w') (hv : TV w' (some T) true) (hT : Trie (hz k0 k1 m) (fun x => nb ≤ x) (some T) true w.heap.size w' 13 0 bq Y F) => put_L T p h0 h1 hp1000 ⟨hv, fun _ x hx => Nat.le_trans (Nat.le_trans (Nat.le_of_eq HNB.out) hb.size) hx, fun h => by simp at h, Nat.le_trans hnb' (Nat.le_trans (Nat.le_of_eq HNB.out) hb.size), fun _ t e hx => by simp only [Option.some.injEq] at e; subst e; omega⟩ hT hrX (by omega) (fun x hx => Nat.le_trans (hsX x hx).1 (by omega))
        go_upto_region 11 with (fail)
        have hdr : Below W3.heap.size W3 W3.drew := (Below.refl _ W3).drew
        have hS0 : (fun w' : World => w'.cell? ⟨N3, 0, none⟩ = some (.int .u64 k0) ∧ w'.cell? ⟨N3, 1, none⟩ = some (.int .u64 k1) ∧ w'.cell? ⟨N3, 2, none⟩ = some (.int .u64 m) ∧ w'.cell? ⟨NP, 0, none⟩ = some (.string q.1) ∧ w'.cell? ⟨NP, 1, none⟩ = some (.string q.2)) W3.drew := ⟨hH.cell 0, hH.cell 1, hH.cell 2, hP.cell 0, hP.cell 1⟩
        have hH := hH.below hdr
        have hP := hP.below hdr
        have hTn := TX.below hTn hdr
        have hTr := Trie.below hTr hdr
        have hv := hv.below hdr
        have hBS := hBS.drew
        clear hdr
        refine wp_region_held_drew (S := (fun w' : World => w'.cell? ⟨N3, 0, none⟩ = some (.int .u64 k0) ∧ w'.cell? ⟨N3, 1, none⟩ = some (.int .u64 k1) ∧ w'.cell? ⟨N3, 2, none⟩ = some (.int .u64 m) ∧ w'.cell? ⟨NP, 0, none⟩ = some (.string q.1) ∧ w'.cell? ⟨NP, 1, none⟩ = some (.string q.2))) (by kernel_rfl) hS0 ?_
        intro hS
        refine wpAnyH_take (i := 0) (oi := { dst := some 43, op := Go.Op.load 26 (Go.Operand.tmp 2), type := 26, pos := "law.go:167", after := #[], guard := none }) (v := .agg #[.int .u64 k0, .int .u64 k1, .int .u64 m]) rfl (by kernel_rfl) (by kernel_rfl) (by kernel_rfl) (fun _ _ _ h => h) (Or.inl ⟨by rfl, fun w hSw => ?_⟩) hS ?_
        · go_split_ands
          go_simp
        try simp only [Act.put, List.setIfInBounds_toArray, List.set_cons_zero, List.set_cons_succ]
        refine wpAnyH_take (i := 1) (oi := { dst := some 44, op := Go.Op.move (Go.Operand.tmp 7), type := 69, pos := "law.go:167", after := #[], guard := none }) (v := .pointer (some ⟨T, 0, none⟩)) rfl (by kernel_rfl) (by kernel_rfl) (by kernel_rfl) (fun _ _ _ h => h) (Or.inl ⟨by rfl, fun w hSw => ?_⟩) hS ?_
        · go_split_ands
          go_simp
        try simp only [Act.put, List.setIfInBounds_toArray, List.set_cons_zero, List.set_cons_succ]
        refine wpAnyH_take (i := 2) (oi := { dst := some 45, op := Go.Op.move (Go.Operand.tmp 11), type := 29, pos := "law.go:167", after := #[], guard := none }) (v := .pointer (some ⟨bq, 0, none⟩)) rfl (by kernel_rfl) (by kernel_rfl) (by kernel_rfl) (fun _ _ _ h => h) (Or.inl ⟨by rfl, fun w hSw => ?_⟩) hS ?_
        · go_split_ands
          go_simp
        try simp only [Act.put, List.setIfInBounds_toArray, List.set_cons_zero, List.set_cons_succ]
        refine wpAnyH_take (i := 3) (oi := { dst := some 46, op := Go.Op.load 52 (Go.Operand.tmp 13), type := 52, pos := "law.go:167", after := #[], guard := none }) (v := .agg #[.string q.1, .string q.2]) rfl (by kernel_rfl) (by kernel_rfl) (by kernel_rfl) (fun _ _ _ h => h) (Or.inl ⟨by rfl, fun w hSw => ?_⟩) hS ?_
        · go_split_ands
          go_simp
        try simp only [Act.put, List.setIfInBounds_toArray, List.set_cons_zero, List.set_cons_succ]
        refine wpAnyH_ready (rs := [4]) (by kernel_rfl) (by simp) ?_
        refine AllReadyH.cons (o := { dst := some 47, op := Go.Op.call { callee := Go.Callee.value (Go.Operand.func 20), args := #[Go.Operand.tmp 46], argTypes := #[52] }, type := 52, pos := "law.go:167", after := #[{ on := 3, ground := Go.Ground.data }], guard := none }) rfl (fun K hK => ?_) AllReadyH.nil
        go_simp
        refine (kfew _).mono ?_
        rintro e wA ⟨rfl, hBA⟩
        go_wp2_with fail
        have hSn := keep5 hS hBA
        refine hK.out _ _ hSn (fun _ => ?_)
        clear hK K hS
        try simp only [Act.put, List.setIfInBounds_toArray, List.set_cons_zero, List.set_cons_succ]
        have hS := hSn
        clear hSn
        have hH := hH.below hBA
        have hP := hP.below hBA
        have hTn := TX.below hTn hBA
        have hTr := Trie.below hTr hBA
        have hv := hv.below hBA
        have hBS := hBS.trans (hBA.mono (Nat.le_trans (Nat.le_of_eq HNB.out) hBS.size))
        have hFN : ∀ x, F x → x ≠ NP := fun x hx e => by have h1 := hFN x hx; omega
        clear hBA
        refine wpAnyH_ready (rs := [5]) (by kernel_rfl) (by simp) ?_
        refine AllReadyH.cons (o := { dst := some 48, op := Go.Op.call { callee := Go.Callee.value (Go.Operand.func 28), args := #[Go.Operand.tmp 43, Go.Operand.tmp 44, Go.Operand.tmp 45, Go.Operand.tmp 47], argTypes := #[26, 69, 29, 52] }, type := 72, pos := "law.go:167", after := #[{ on := 0, ground := Go.Ground.data }, { on := 1, ground := Go.Ground.data }, { on := 2, ground := Go.Ground.data }, { on := 4, ground := Go.Ground.data }, { on := 4, ground := Go.Ground.chain }], guard := none }) rfl (fun K hK => ?_) AllReadyH.nil
        go_simp
        refine (kp _ hBS hv hTr).mono ?_
        rintro e wC ⟨b1, gb, rfl, F1, hT1, hK5, hv5, hF1⟩
        have hH1 := Blk.keepF hH hK5 (fun h => by have h1 := hFS _ h; omega)
        have hP1 := Blk.keepF hP hK5 (fun h => hFN _ h rfl)
        go_wp2_with fail
        have hSn := (⟨hH1.cell 0, hH1.cell 1, hH1.cell 2, hP1.cell 0, hP1.cell 1⟩ : (fun w' : World => w'.cell? ⟨N3, 0, none⟩ = some (.int .u64 k0) ∧ w'.cell? ⟨N3, 1, none⟩ = some (.int .u64 k1) ∧ w'.cell? ⟨N3, 2, none⟩ = some (.int .u64 m) ∧ w'.cell? ⟨NP, 0, none⟩ = some (.string q.1) ∧ w'.cell? ⟨NP, 1, none⟩ = some (.string q.2)) wC)
        refine hK.out _ _ hSn (fun _ => ?_)
        clear hK K hS
        try simp only [Act.put, List.setIfInBounds_toArray, List.set_cons_zero, List.set_cons_succ]
        have hS := hSn
        clear hSn
        have hTn1 := TX.keepG (G := F) hTn hK5 (fun x hx => .inr (hFS x hx)) (fun x hx cs hc => by
          exact absurd (Trie.types _ _ _ _ _ hTr x hx _ _ hc) (by decide))
        have hFS1 : ∀ x, F1 x → nb ≤ x := fun x hx => by
          rcases hF1 x hx with h | h
          · exact hFS x h
          · exact Nat.le_trans (Nat.le_trans (Nat.le_of_eq HNB.out) hBS.size) h
        have hBS1 := hBS.trans (hK5.belowAt (base := nb) hFS (Nat.le_trans (Nat.le_of_eq HNB.out) hBS.size))
        clear hTr hTn hv hBS hFS hFN hK5 hF1 hH hP
        refine wpAnyH_take (i := 6) (oi := { dst := some 42, op := Go.Op.move (Go.Operand.tmp 48), type := 72, pos := "law.go:167", after := #[{ on := 5, ground := Go.Ground.data }], guard := none }) (v := .tuple #[.pointer (some ⟨b1, 0, none⟩), .bool gb]) rfl (by kernel_rfl) (by kernel_rfl) (by kernel_rfl) (fun _ _ _ h => h) (Or.inl ⟨by rfl, fun w hSw => ?_⟩) hS ?_
        · go_split_ands
          go_simp
        try simp only [Act.put, List.setIfInBounds_toArray, List.set_cons_zero, List.set_cons_succ]
        refine wpAnyH_take (i := 7) (oi := { dst := some 49, op := Go.Op.extract (Go.Operand.tmp 42) 0, type := 29, pos := "law.go:167", after := #[{ on := 6, ground := Go.Ground.data }], guard := none }) (v := .pointer (some ⟨b1, 0, none⟩)) rfl (by kernel_rfl) (by kernel_rfl) (by kernel_rfl) (fun _ _ _ h => h) (Or.inl ⟨by rfl, fun w hSw => ?_⟩) hS ?_
        · go_split_ands
          go_simp
        try simp only [Act.put, List.setIfInBounds_toArray, List.set_cons_zero, List.set_cons_succ]
        refine wpAnyH_take (i := 8) (oi := { dst := some 50, op := Go.Op.extract (Go.Operand.tmp 42) 1, type := 4, pos := "law.go:167", after := #[{ on := 6, ground := Go.Ground.data }, { on := 9, ground := Go.Ground.gcOnly Go.Departure.lateStores }], guard := none }) (v := .bool gb) rfl (by kernel_rfl) (by kernel_rfl) (by kernel_rfl) (fun _ _ _ h => h) (Or.inl ⟨by rfl, fun w hSw => ?_⟩) hS ?_
        · go_split_ands
          go_simp
        try simp only [Act.put, List.setIfInBounds_toArray, List.set_cons_zero, List.set_cons_succ]
        refine wpAnyH_take (i := 9) (oi := { dst := some 11, op := Go.Op.assign (Go.Operand.tmp 49), type := 29, pos := "law.go:167", after := #[{ on := 7, ground := Go.Ground.data }, { on := 5, ground := Go.Ground.chain }, { on := 0, ground := Go.Ground.phase }, { on := 1, ground := Go.Ground.phase }, { on := 2, ground := Go.Ground.phase }, { on := 3, ground := Go.Ground.phase }, { on := 4, ground := Go.Ground.phase }, { on := 5, ground := Go.Ground.phase }, { on := 6, ground := Go.Ground.phase }, { on := 7, ground := Go.Ground.phase }, { on := 8, ground := Go.Ground.textOnly Go.Departure.lateStores }], guard := none }) (v := .pointer (some ⟨b1, 0, none⟩)) rfl (by kernel_rfl) (by kernel_rfl) (by kernel_rfl) (fun _ _ _ h => h) (Or.inl ⟨by rfl, fun w hSw => ?_⟩) hS ?_
        · go_split_ands
          go_simp
        try simp only [Act.put, List.setIfInBounds_toArray, List.set_cons_zero, List.set_cons_succ]
        refine wpAnyH_done (by kernel_rfl) ?_ _

        have hH1 := Lib.hid hH1
        have hT1 := Lib.hid hT1
        have hTn1 := Lib.hid hTn1
        have hv5 := Lib.hid hv5
        have hBS1 := Lib.hid hBS1
        have hFS1 := Lib.hid hFS1
        clear hS hS0 kp kfew hP1
        go_wp2_with fail
        exact ⟨⟨j + 1, b1, F1, by omega, by go_num, rfl, by rw [HS.out]; exact hT1.out, hFS1.out, hTn1.out, hv5.out, hH1.out, hBS1.out⟩, by simp [intOf]; omega⟩
      · have G : ¬ ((j : Int) < 30) := by omega
        have HS : Hid (tl ps1 (min (j + 1) 30) = tl ps1 (min j 30)) := Lib.hid (by rw [Nat.min_eq_right (by omega), Nat.min_eq_right (by omega)])
        clear hrX hlX hsX hP hFN
        generalize tl ps1 (min j 30) = Y at *
        generalize ps1[j] = q at *
        go_wp2_with fail
        exact ⟨⟨j + 1, bq, F, by omega, by go_num, rfl, by rw [HS.out]; exact hTr, hFS, hTn, hv, hH, hBS⟩, by simp [intOf]; omega⟩
    · obtain rfl : j = len1 := by omega
      have G : ¬ ((j : Int) < (j : Int)) := by omega
      rw [tl_min (by rw [HLEN.out]; exact Nat.le_refl _)] at hTr
      obtain ⟨hrX, hlX, hsX⟩ := trieL_good ps1
      have hNn := Trie.tree _ _ _ _ _ hTn
      have hNm := Trie.tree _ _ _ _ _ hTr
      have hBW := hBS.mono (show w5.heap.size ≤ nb by rw [HNB.out]; exact Nat.le_refl _)
      have hPo := HPO.out.keep (Keep.of_below (X := []) hBW) (by simp) (by simp)
      have hTk := HTK.out.keep (Keep.of_below (X := []) hBW) (by simp)
      have hB := HBW.out.trans (hBW.mono HBW.out.size)
      clear hTr hFS hTn hv hBS hBW HPO HTK HA1 HBW HLEN
      generalize trieL ps1 = X at *
      have hXs : SmallR (treeOf (hz k0 k1 m) 13 0 X) := tree_small _ 13 0 X hsX.mid (by omega)
      have eX := enc_small (H := hz k0 k1 m) hsX (by omega)
      have tX := tree_right (hz k0 k1 m) X
      have kSame := fun w' ba bb na' nb' (hn : NdR na' w' (treeOf (hz k0 k1 m) 13 0 X) ba) (hn' : NdR nb' w' (treeOf (hz k0 k1 m) 13 0 X) bb) => same_node na' nb' _ _ ba bb w' hn hXs.fair eX hn' hXs.fair eX (fun _ => rfl)
      have kCan := fun w' bb nb' (hn : NdR nb' w' (treeOf (hz k0 k1 m) 13 0 X) bb) => canon_any k0 k1 m h0 h1 nb' _ bb w' hn hXs
      rw [tX] at kCan
      simp only [decide_true] at kSame
      unfold hasherV at0 at kCan
      generalize treeOf (hz k0 k1 m) 13 0 X = tx at *
      clear tX hrX hsX hlX
      have ks := kSame _ _ _ _ _ hNn hNm
      go_wp2_with fail
      refine ks.mono ?_
      rintro e w6 ⟨rfl, hB6⟩
      have hH := hH.below hB6
      have hNn := NdR.below _ hNn hB6
      have hNm := NdR.below _ hNm hB6
      have hPo := hPo.keep (Keep.of_below (X := []) hB6) (by simp) (by simp)
      have hTk := hTk.keep (Keep.of_below (X := []) hB6) (by simp)
      have hB := hB.trans (hB6.mono hB.size)
      have ks := kCan _ _ _ hNm
      have s0 : w6.cell? ⟨N3, 0, none⟩ = some (.int .u64 k0) := hH.cell 0
      have s1 : w6.cell? ⟨N3, 1, none⟩ = some (.int .u64 k1) := hH.cell 1
      have s2 : w6.cell? ⟨N3, 2, none⟩ = some (.int .u64 m) := hH.cell 2

      clear hB6
      go_wp2_with fail
      refine ks.mono ?_
      rintro e w7 ⟨rfl, hB7⟩
      have hNn := NdR.below _ hNn hB7
      have hNm := NdR.below _ hNm hB7
      have hPo := hPo.keep (Keep.of_below (X := []) hB7) (by simp) (by simp)
      have hTk := hTk.keep (Keep.of_below (X := []) hB7) (by simp)
      have hB := hB.trans (hB7.mono hB.size)
      have hPo : Pool w7 P c 1 1 [] := by simpa using hPo
      have kE := end_ok P c 1 1 [] T 1 w7 hPo hTk (by simp) (by omega)
      unfold at0 at kE
      clear ks kCan hB7 s0 s1 s2 hH
      go_wp2_with fail
      refine kE.mono ?_
      rintro e w8 ⟨rfl, -, -, -, hKE⟩
      have hNn := NdR.keepF (KeepF.ofKeep hKE) (end_types hPo hTk) _ _ hNn
      have hNm := NdR.keepF (KeepF.ofKeep hKE) (end_types hPo hTk) _ _ hNm
      have hB := hB.trans (hKE.below hB.size (by simp; exact ⟨hbP, hbc, hbT⟩))
      have ks := kSame _ _ _ _ _ hNm hNn
      clear kE hKE hPo hTk kSame
      go_wp2_with fail
      refine ks.mono ?_
      rintro e w9 ⟨rfl, hB9⟩
      have hB := hB.trans (hB9.mono hB.size)
      go_wp2_with fail
      go_ret
      exact ⟨rfl, hB⟩

/-! ### THE ROW's STEP -/
set_option maxRecDepth 100000 in
theorem lifted (os : Os) (started : os.Started) (H : Type) (enc : TypeId × Value → H) :
    ReturnsInHanded {} Tryz.checked os 6 .any (Rows.shapeOwnersSpec.pre6 enc Tryz.prog Tryz.f6 Rows.shapeOwnersRow.domain false) (Rows.shapeOwnersSpec.post enc Tryz.prog Tryz.f6 false true false false) := by
  refine returnsInHanded_of_change (C := Tryz.checked) own started (by kernel_rfl) Tryz.func6
    (ChangeSpec.witness6 (enc := enc) (C := Tryz.checked) false ⟨#[], #[.agg #[.int .u64 0, .int .u64 0, .int .u64 0], .slice none 0 0], []⟩ 8 (by kernel_rfl) (by kernel_rfl) (by kernel_rfl) (by kernel_rfl)) ?_
  intro W base args ds gs before hval0 hW hcnd _
  have hval : ∀ (j : Nat) t v, Tryz.f6.params[j]? = some t → args[j]? = some v → Value.okWide Tryz.prog W .any base t v := hval0
  have hW' := hW
  obtain ⟨p, q, hA0, hV, rfl, hfz, hnd⟩ := hW
  have hA : DataW.TrodAll enc Tryz.prog W 0 (fun _ => true) true Tryz.f6.params.toList args.toList ds p := hA0
  rw [Tryz.params6] at hA hval
  obtain ⟨v0, vs0, d0, ds0, p0, q0, hargs, rfl, rfl, h0, r0⟩ := trodAll_cons hA
  obtain ⟨v1, vs1, d1, ds1, p1, q1, rfl, rfl, rfl, h1, r1⟩ := trodAll_cons r0
  obtain ⟨rfl, rfl, rfl⟩ := trodAll_nil r1
  obtain rfl : args = #[v0, v1] := by cases args; simp_all
  obtain ⟨rfl, rfl⟩ := trodVars_none hV
  have k0 := h0
  have lt0 : ∀ x ∈ p0, x.block < W.heap.size := by obtain ⟨m, hm⟩ := k0; exact DataW.trod_lt m _ _ _ hm
  obtain ⟨x0, y0, m0, rfl, u0, t0, r0_⟩ := open_hasher (hval 0 26 v0 rfl rfl) h0
  obtain ⟨a1, len1, cap1, rfl⟩ := okWide_slice Tryz.underlying27 (hval 1 27 v1 rfl rfl)
  have k1 := h1
  have lt1 : ∀ x ∈ p1, x.block < W.heap.size := by obtain ⟨m, hm⟩ := k1; exact DataW.trod_lt m _ _ _ hm
  obtain ⟨z1, w1⟩ := open_pairs h1
  clear hA0 hval0
  refine (walk x0 y0 m0 a1 len1 cap1 z1 W u0 t0 w1).mono fun e W' ⟨he, bel⟩ => ?_
  subst he
  exact ⟨_, rfl, _, _, _, [], _, [], hW', trodAll_mk1 (shut_bool Tryz.underlying4 _), (trodAll_cons_mk (Below.trod laidOut (by kernel_rfl) (of_decide_eq_true (by kernel_rfl)) k0 bel lt0) (trodAll_cons_mk (Below.trod laidOut (by kernel_rfl) (of_decide_eq_true (by kernel_rfl)) k1 bel lt1) trodAll_mk0)), rfl, bel.frame _, fun h => by cases h⟩

theorem over : Rows.shapeOwnersRow.holds Tryz.pinned (OpenSpec.ofChange Rows.shapeOwnersSpec) :=
  OpenClaim.holds_of_wide 6 Tryz.f6 rfl rfl rfl rfl rfl rfl rfl ⟨rfl, rfl, rfl, rfl, rfl⟩ rfl rfl rfl rfl rfl (by kernel_rfl) Tryz.func6 (by kernel_rfl)
    (of_decide_eq_true (by kernel_rfl)) (by unfold Func.isWrapper; first | (rw [if_pos (by decide +kernel)]; kernel_rfl) | (rw [if_neg (by decide +kernel)]; exact ⟨rfl, rfl⟩))
    (fun os started H enc _ => lifted os started H enc)

theorem proved : Rows.ShapeOwnersSaid := over
#print axioms proved
end Go.Proofs.YtchimfgbdfmegaaGreat.shapeOwners
