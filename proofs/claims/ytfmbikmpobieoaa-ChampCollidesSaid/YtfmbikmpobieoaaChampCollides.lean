/- ChampCollides: for every key and every list of pairs the law returns true: keys whose hashes are alike in all bits are one way down, and a bucket at its end, in which they rise. Conditions: none beyond the given statement. -/
import Derived.Test.YtfmbikmpobieoaaRows
import Derived.WalkKit
import Derived.ProofKit
import Derived.OpenShut
import Derived.ShutString
import Derived.ChangeOld
import Derived.Below
import Derived.BigQuiet
import Derived.Deep.RegionHeld3
import Derived.Carry
import Derived.Lib.SmallJoins
import Derived.Test.YtfmbikmpobieoaaMZ
namespace Go.Proofs.Ytfmbikmpobieoaa.champCollides
open Go.ChangeShapes Go.WideShapes Go.ChangeAt Go.RowKit Go.Joins Go.Lib
open Go.ChangeMaps (open_string shut_string)
set_option linter.unusedVariables false
set_option linter.unusedSimpArgs false
set_option maxRecDepth 100000
attribute [local irreducible] cnt

theorem own : ownKnob Try.prog.godebug = none := by kernel_rfl
theorem laidOut : laidOutB Try.prog = true := by kernel_rfl

set_option maxHeartbeats 16000000 in
theorem walk (k0 k1 : Int) (a1 : Option Addr) (len1 cap1 : Nat) (ps1 : List Pr) (w : World) (h0 : U64 k0) (h1 : U64 k1) (hp1 : ArgP w a1 len1 cap1 ps1) :
    Calls Try.prog 3 #[.agg #[.int .u64 k0, .int .u64 k1], .slice a1 len1 cap1] w fun e w' => e = .returned (.bool true) ∧ Below w.heap.size w w' := by
  obtain ⟨i34, hi34, hy340, hy341, hy342⟩ := info_parts info33
  have hB0 := (Below.refl _ w).alloc (Nat.le_refl _) (.cells #[.int .u64 k0, .int .u64 k1] 24)
  have b1 := Blk.new w 24 #[.int .u64 k0, .int .u64 k1]
  have hl1 := hp1.len_le
  have HA1 := Lib.hid hp1
  have HZ := Lib.hid (hz_zero k0 k1)
  clear hp1
  go_enter Try.func3, Try.ntmps3
  go_upto_region 1 with (fail)
  generalize w.alloc (.cells #[.int .u64 k0, .int .u64 k1] 24) = W at *
  obtain ⟨N2, hN2⟩ : ∃ N2, N2 = w.heap.size := ⟨_, rfl⟩
  rw [← hN2] at b1 ⊢
  clear hN2
  go_wp2_with fail
  refine (awake_any _).mono ?_
  rintro e w1 ⟨rfl, hB1⟩
  have hK := b1.below hB1
  have hB := hB0.trans (hB1.mono hB0.size)
  have kc0 : w1.cell? ⟨N2, 0, none⟩ = some (.int .u64 k0) := hK.cell 0
  have kc1 : w1.cell? ⟨N2, 1, none⟩ = some (.int .u64 k1) := hK.cell 1
  clear b1 hB1 hB0
  go_upto_region 4 with (fail)
  have hBl := (Below.refl _ w1).alloc (Nat.le_refl _) (.cells #[.int .u64 k0, .int .u64 k1, .int .u64 0] 28)
  have hH := Blk.new w1 28 #[.int .u64 k0, .int .u64 k1, .int .u64 0]
  have hB := hB.trans (hBl.mono hB.size)
  clear hBl hK kc0 kc1
  generalize w1.alloc (.cells #[.int .u64 k0, .int .u64 k1, .int .u64 0] 28) = W1 at *
  generalize w1.heap.size = N5 at *
  go_wp2_with fail
  refine (empty_plain (base := w.heap.size) k0 k1 0 hB.size).mono ?_
  rintro e w2 ⟨b, rfl, hT, hB2⟩
  have hH := hH.below hB2
  have hB := hB.trans (hB2.mono hB.size)
  clear hB2
  go_wp2_with fail
  go_loopw [6, 7, 17] (fun v6 v7 vi wr => ∃ (j bq : Nat) (Z L : List Pr), j ≤ len1 ∧ vi = .int .i64 j ∧ v6 = .pointer (some ⟨bq, 0, none⟩) ∧ L.length ≤ j ∧ L.length ≤ 25 ∧ RisesL Z ∧ Z.length ≤ 25 ∧ IsNorm L Z ∧ (∀ x ∈ Z, x.1.size ≤ 40) ∧ TX (atBlk v7) k0 k1 0 w.heap.size wr bq Z ∧ Own w.heap.size wr v7 L ∧ Blk wr N5 28 #[.int .u64 k0, .int .u64 k1, .int .u64 0] ∧ Below w.heap.size w wr) (fun v6 v7 vi wr => len1 - (intOf vi).toNat)
  case atStart => exact ⟨0, b, [], [], by omega, rfl, rfl, by simp, by simp, rises_nil, by simp, norm_nil, by simp, hT.tx (fun x hx => by unfold atBlk at hx; simp [Value.ownBlock] at hx), ⟨rfl, .inl ⟨rfl, rfl⟩⟩, hH, hB⟩
  case round =>
    clear hT hH hB
    obtain ⟨j, bq, Z, L, hj, rfl, rfl, hlj, hlL, hrZ, hlZ, hN, hzZ, hTn, hO, hH, hB⟩ := hrel
    by_cases hlt : j < len1
    · obtain ⟨x, q, rfl, c0, c1⟩ := HA1.out.at hB j hlt
      have L1 : (j : Int) < (len1 : Int) := by omega
      have L2 : IntKind.i64.wrap ((j : Int) + 1) = ((j + 1 : Nat) : Int) := by rw [IntWalk.i64_in _ (by omega)]; omega
      go_upto_region 9 with (fail)
      have hBl := (Below.refl _ wr).alloc (Nat.le_refl _) (.cells #[.string q.1, .string q.2] 32)
      have hP := Blk.new wr 32 #[.string q.1, .string q.2]
      have hB := hB.trans (hBl.mono hB.size)
      have hTn := hTn.below hBl
      have hH := hH.below hBl

      have hO := hO.below hBl
      clear hBl c0 c1
      generalize wr.alloc (.cells #[.string q.1, .string q.2] 32) = w3 at *
      generalize wr.heap.size = N9 at *
      by_cases h25 : j < 25
      · have G : (j : Int) < 25 := by omega
        have hp1 : (few40 q).1.size ≤ 40 := cut40_size q.1
        have kfew := fun w' => few_any q w'
        have HN := Lib.hid hN
        generalize few40 q = p at *
        have hp1000 : p.1.size ≤ 1000 := by omega
        have kp := fun w' (hw : w.heap.size ≤ w'.heap.size) (hO : Own w.heap.size w' u7 L) (hT : TX (atBlk u7) k0 k1 0 w.heap.size w' bq Z) => put_X p h0 h1 hp1000 hw (fun x hx => by obtain ⟨cur, hc⟩ := own_cells hO x hx; exact blk_lt hc) hT hrZ (by omega) (fun x hx => Nat.le_trans (hzZ x hx) (by omega))
        clear hN
        go_upto_region 10 with (fail)
        have hS0 : (fun w' : World => w'.cell? ⟨N5, 0, none⟩ = some (.int .u64 k0) ∧ w'.cell? ⟨N5, 1, none⟩ = some (.int .u64 k1) ∧ w'.cell? ⟨N5, 2, none⟩ = some (.int .u64 0) ∧ w'.cell? ⟨N9, 0, none⟩ = some (.string q.1) ∧ w'.cell? ⟨N9, 1, none⟩ = some (.string q.2)) w3.drew := ⟨hH.cell 0, hH.cell 1, hH.cell 2, hP.cell 0, hP.cell 1⟩
        have hdr : Below w3.heap.size w3 w3.drew := (Below.refl _ w3).drew
        have hB := hB.trans (hdr.mono hB.size)
        have hTn := hTn.below hdr
        have hH := hH.below hdr
        have hP := hP.below hdr

        have hO := hO.below hdr
        clear hdr
        refine wp_region_held_drew (S := fun w' : World => w'.cell? ⟨N5, 0, none⟩ = some (.int .u64 k0) ∧ w'.cell? ⟨N5, 1, none⟩ = some (.int .u64 k1) ∧ w'.cell? ⟨N5, 2, none⟩ = some (.int .u64 0) ∧ w'.cell? ⟨N9, 0, none⟩ = some (.string q.1) ∧ w'.cell? ⟨N9, 1, none⟩ = some (.string q.2)) (by kernel_rfl) hS0 ?_
        intro hS
        refine wpAnyH_take (i := 0) (oi := { dst := some 25, op := Go.Op.load 28 (Go.Operand.tmp 5), type := 28, pos := "law.go:295", after := #[], guard := none }) (v := .agg #[.int .u64 k0, .int .u64 k1, .int .u64 0]) rfl (by kernel_rfl) (by kernel_rfl) (by kernel_rfl) (fun _ _ _ h => h) (Or.inl ⟨by rfl, fun w hSw => ?_⟩) hS ?_
        · go_split_ands
          go_simp
        try simp only [Act.put, List.setIfInBounds_toArray, List.set_cons_zero, List.set_cons_succ]
        refine wpAnyH_take (i := 1) (oi := { dst := some 26, op := Go.Op.move (Go.Operand.tmp 6), type := 29, pos := "law.go:295", after := #[], guard := none }) (v := .pointer (some ⟨bq, 0, none⟩)) rfl (by kernel_rfl) (by kernel_rfl) (by kernel_rfl) (fun _ _ _ h => h) (Or.inl ⟨by rfl, fun w hSw => ?_⟩) hS ?_
        · go_split_ands
          go_simp
        try simp only [Act.put, List.setIfInBounds_toArray, List.set_cons_zero, List.set_cons_succ]
        refine wpAnyH_take (i := 2) (oi := { dst := some 27, op := Go.Op.load 32 (Go.Operand.tmp 9), type := 32, pos := "law.go:295", after := #[], guard := none }) (v := .agg #[.string q.1, .string q.2]) rfl (by kernel_rfl) (by kernel_rfl) (by kernel_rfl) (fun _ _ _ h => h) (Or.inl ⟨by rfl, fun w hSw => ?_⟩) hS ?_
        · go_split_ands
          go_simp
        try simp only [Act.put, List.setIfInBounds_toArray, List.set_cons_zero, List.set_cons_succ]
        refine wpAnyH_ready (rs := [3]) (by kernel_rfl) (by simp) ?_
        refine AllReadyH.cons (o := { dst := some 28, op := Go.Op.call { callee := Go.Callee.value (Go.Operand.func 7), args := #[Go.Operand.tmp 27], argTypes := #[32] }, type := 32, pos := "law.go:295", after := #[{ on := 2, ground := Go.Ground.data }], guard := none }) rfl (fun K hK => ?_) AllReadyH.nil
        go_simp
        refine (kfew _).mono ?_
        rintro e wA ⟨rfl, hBA⟩
        go_wp2_with fail
        have hSn := keep5 hS hBA
        refine hK.out _ _ hSn (fun _ => ?_)
        clear hK K hS
        try simp only [Act.put, List.setIfInBounds_toArray, List.set_cons_zero, List.set_cons_succ]
        have hS := hSn
        clear hSn
        have hB := hB.trans (hBA.mono hB.size)
        have hTn := hTn.below hBA
        have hH := hH.below hBA
        have hP := hP.below hBA
        have hO := hO.below hBA
        clear hBA
        refine wpAnyH_ready (rs := [4]) (by kernel_rfl) (by simp) ?_
        refine AllReadyH.cons (o := { dst := some 29, op := Go.Op.call { callee := Go.Callee.value (Go.Operand.func 6), args := #[Go.Operand.tmp 25, Go.Operand.const (Go.Value.pointer none), Go.Operand.tmp 26, Go.Operand.tmp 28], argTypes := #[28, 49, 29, 32] }, type := 33, pos := "law.go:295", after := #[{ on := 0, ground := Go.Ground.data }, { on := 1, ground := Go.Ground.data }, { on := 3, ground := Go.Ground.data }, { on := 3, ground := Go.Ground.chain }], guard := none }) rfl (fun K hK => ?_) AllReadyH.nil
        go_simp
        refine (kp _ hB.size hO hTn).mono ?_
        rintro e wC ⟨b1, rfl, hT1, hBC⟩
        go_wp2_with fail
        have hSn := keep5 hS hBC
        refine hK.out _ _ hSn (fun _ => ?_)
        clear hK K hS
        try simp only [Act.put, List.setIfInBounds_toArray, List.set_cons_zero, List.set_cons_succ]
        have hS := hSn
        clear hSn
        have hB := hB.trans (hBC.mono hB.size)
        have hH := hH.below hBC
        have hP := hP.below hBC
        have hO := hO.below hBC
        clear hBC
        refine wpAnyH_take (i := 5) (oi := { dst := some 24, op := Go.Op.move (Go.Operand.tmp 29), type := 33, pos := "law.go:295", after := #[{ on := 4, ground := Go.Ground.data }], guard := none }) (v := .tuple #[.pointer (some ⟨b1, 0, none⟩), .bool (getK Z p.1).isNone]) rfl (by kernel_rfl) (by kernel_rfl) (by kernel_rfl) (fun _ _ _ h => h) (Or.inl ⟨by rfl, fun w hSw => ?_⟩) hS ?_
        · go_split_ands
          go_simp
        try simp only [Act.put, List.setIfInBounds_toArray, List.set_cons_zero, List.set_cons_succ]
        refine wpAnyH_take (i := 6) (oi := { dst := some 30, op := Go.Op.extract (Go.Operand.tmp 24) 0, type := 29, pos := "law.go:295", after := #[{ on := 5, ground := Go.Ground.data }], guard := none }) (v := .pointer (some ⟨b1, 0, none⟩)) rfl (by kernel_rfl) (by kernel_rfl) (by kernel_rfl) (fun _ _ _ h => h) (Or.inl ⟨by rfl, fun w hSw => ?_⟩) hS ?_
        · go_split_ands
          go_simp
        try simp only [Act.put, List.setIfInBounds_toArray, List.set_cons_zero, List.set_cons_succ]
        refine wpAnyH_take (i := 7) (oi := { dst := some 31, op := Go.Op.extract (Go.Operand.tmp 24) 1, type := 4, pos := "law.go:295", after := #[{ on := 5, ground := Go.Ground.data }, { on := 8, ground := Go.Ground.gcOnly Go.Departure.lateStores }], guard := none }) (v := .bool (getK Z p.1).isNone) rfl (by kernel_rfl) (by kernel_rfl) (by kernel_rfl) (fun _ _ _ h => h) (Or.inl ⟨by rfl, fun w hSw => ?_⟩) hS ?_
        · go_split_ands
          go_simp
        try simp only [Act.put, List.setIfInBounds_toArray, List.set_cons_zero, List.set_cons_succ]
        refine wpAnyH_take (i := 8) (oi := { dst := some 6, op := Go.Op.assign (Go.Operand.tmp 30), type := 29, pos := "law.go:295", after := #[{ on := 6, ground := Go.Ground.data }, { on := 4, ground := Go.Ground.chain }, { on := 0, ground := Go.Ground.phase }, { on := 1, ground := Go.Ground.phase }, { on := 2, ground := Go.Ground.phase }, { on := 3, ground := Go.Ground.phase }, { on := 4, ground := Go.Ground.phase }, { on := 5, ground := Go.Ground.phase }, { on := 6, ground := Go.Ground.phase }, { on := 7, ground := Go.Ground.textOnly Go.Departure.lateStores }], guard := none }) (v := .pointer (some ⟨b1, 0, none⟩)) rfl (by kernel_rfl) (by kernel_rfl) (by kernel_rfl) (fun _ _ _ h => h) (Or.inl ⟨by rfl, fun w hSw => ?_⟩) hS ?_
        · go_split_ands
          go_simp
        try simp only [Act.put, List.setIfInBounds_toArray, List.set_cons_zero, List.set_cons_succ]
        refine wpAnyH_done (by kernel_rfl) ?_ _

        clear hS kp hTn
        have hTn := hT1
        have p0 : wC.cell? ⟨N9, 0, none⟩ = some (.string q.1) := hP.cell 0
        have p1 : wC.cell? ⟨N9, 1, none⟩ = some (.string q.2) := hP.cell 1
        generalize (getK Z p.1).isNone = gb at *
        go_wp2_with fail
        refine (kfew wC).mono ?_
        rintro e w2 ⟨rfl, hB2⟩
        have hB := hB.trans (hB2.mono hB.size)
        have hTn := hTn.below hB2
        have hH := hH.below hB2

        have hO := hO.below hB2
        clear kfew p0 p1 hB2 hP hT1
        have hBc := (Below.refl _ w2).alloc (Nat.le_refl _) (.cells #[.string p.1, .string p.2] 32)
        have hB := hB.trans (hBc.mono hB.size)
        have hTn := hTn.below hBc
        have hH := hH.below hBc

        have hO := hO.below hBc
        have hrow : (w2.alloc (.cells #[.string p.1, .string p.2] 32)).ownsRow w.heap.size 32 2 u7 L.length (flat L) := hO
        have hnb : (w2.alloc (.cells #[.string p.1, .string p.2] 32)).heap[w2.heap.size]? = some (.cells #[.string p.1, .string p.2] 32 (0, 0)) := heap_alloc_new w2 _
        have hsz := hB.size
        have HH := Lib.hid hH
        have HB := Lib.hid hB
        have HT := Lib.hid hTn
        clear hO hH hB hBc hTn
        go_wp2_with (at_builtin; refine wpList_append_own_at _ rfl _ _ 25 rfl w.heap.size 32 i34 _ 2 32 Try.underlying25 hi34 hy340 hy341 hy342 zsz_pairs (by decide) _ _ _ rfl hrow ⟨w2.heap.size, 0, none⟩ 1 1 [.string p.1, .string p.2] rfl rfl (World.news_of_block hnb) (by simp [Value.oneCell']) (by unfold maxLen; omega) (by omega) hsz ?_; intro v' wa hown' hgrow hnil hat)
        replace hgrow : (w2.alloc (.cells #[.string p.1, .string p.2] 32)).grownBy wa u7.ownBlock := hgrow
        have hH7 := HH.out.keep (keep_grown hgrow) (fun hm => by
          have hx' : u7.ownBlock = some N5 := by simpa using hm
          obtain ⟨cs, hb⟩ := own_cells hrow N5 hx'
          have h26 := HH.out
          unfold Blk at h26
          rw [h26] at hb
          simp at hb)
        have hT7 := HT.out.grow hrow hgrow hat
        refine ⟨⟨j + 1, b1, putK Z p, L ++ [p], by omega, by go_num, rfl, by simp; omega, by simp; omega, put_rises _ hrZ, ?_, norm_put p HN.out, ?_, hT7, Own.snoc hown', hH7, HB.out.grown hgrow hsz (own_ge hrow)⟩, by simp [intOf]; omega⟩
        · have := norm_length (norm_put p HN.out)
          simp at this; omega
        · intro z hz
          rcases put_sets.1 hz with rfl | ⟨h, _⟩
          · exact hp1
          · exact hzZ z h
      · have G : ¬ ((j : Int) < 25) := by omega
        clear hP
        go_wp2_with fail
        exact ⟨⟨j + 1, bq, Z, L, by omega, by go_num, rfl, by omega, hlL, hrZ, hlZ, hN, hzZ, hTn, hO, hH, hB⟩, by simp [intOf]; omega⟩
    · obtain rfl : j = len1 := by omega
      have G : ¬ ((j : Int) < (j : Int)) := by omega
      have hTZ := hTn.free
      obtain ⟨A7, c7, rfl, hR7, hAt, hA0⟩ := hO.lie
      have ks := sorted_any A7 c7 L wr hR7 hAt (by omega) hA0
      clear hO hR7 hAt hA0 hTn
      go_wp2_with fail
      refine ks.mono ?_
      rintro e w3 ⟨v, S, rfl, hOS, hNS, hB3⟩
      obtain rfl : S = Z := norm_unique hNS hN
      have hB := hB.trans (hB3.mono hB.size)
      have hTZ := hTZ.below hB3
      obtain ⟨A9, c9, rfl, hR9, -⟩ := hOS.lie
      clear ks hNS hN hOS hB3 hH HA1
      by_cases h2 : S.length < 2
      · have G2 : ((S.length : Int) < 2) := by omega
        obtain ⟨ow, pv, kv, d, nn, xs, hNd, hxl⟩ := coll_few HZ.out hTZ h2
        have kl := len_any _ _ _ _ _ _ _ _ _ _ w3 hNd (by omega) (by simp)
        have kl2 : ∀ w', NdV w.heap.size w' bq ow false d nn pv kv xs [] → Calls Try.prog 10 #[at0 bq] w' (fun e w'' => e = .returned (.bool false) ∧ w' = w'') := fun w' h => isBucket_any _ _ _ _ _ _ _ _ _ _ w' h
        unfold at0 at kl kl2
        rw [hxl] at kl
        clear hTZ hR9
        go_wp2_with fail
        refine kl.mono ?_
        rintro e w4 ⟨rfl, n4, rfl⟩
        have hNd := hNd.drewN n4
        have hB := Sip.below_drewN hB n4
        have e0 : ((S.length + ([] : List Nat).length : Nat) : Int) = (S.length : Int) := by simp
        rw [e0]
        go_wp2_with fail
        refine (kl2 _ hNd).mono ?_
        rintro e w5 ⟨rfl, rfl⟩
        go_wp2_with fail
        go_ret
        exact ⟨rfl, hB⟩
      · have G2 : ¬ ((S.length : Int) < 2) := by omega
        have H2 : 2 ≤ S.length := by omega
        clear h2
        go_wp2_with fail
        go_loopw [6, 53] (fun v6 vi wr => ∃ (i b n : Nat) (F : Nat → Prop), i + n = 13 ∧ vi = .int .i64 i ∧ v6 = .pointer (some ⟨b, 0, none⟩) ∧ Trie (hz k0 k1 0) (fun _ => False) none false w.heap.size wr n i b S F ∧ Rd wr A9 S ∧ Below w.heap.size w wr) (fun v6 vi wr => 13 - (intOf vi).toNat)
        case atStart => exact ⟨0, bq, 13, _, rfl, rfl, rfl, hTZ, hR9, hB⟩
        case round =>
          clear hTZ hR9 hB
          obtain ⟨i, b, n, F, hin, rfl, rfl, hT, hR, hB⟩ := hrel
          by_cases hlt : i < 13
          · obtain ⟨n', rfl⟩ : ∃ n', n = n' + 1 := ⟨n - 1, by omega⟩
            obtain ⟨ow, pv, kv, k, G, hNd, hTk⟩ := coll_step HZ.out hT H2
            have L1 : (i : Int) < 13 := by omega
            have L2 : IntKind.i64.wrap ((i : Int) + 1) = ((i + 1 : Nat) : Int) := by rw [IntWalk.i64_in _ (by omega)]; omega
            have k1' := isBucket_any _ _ _ _ _ _ _ _ _ _ wr hNd
            have k2' := data_any _ _ _ _ _ _ _ _ _ _ wr hNd
            have k3' := nodes_any _ _ _ _ _ _ _ _ _ _ wr hNd
            have k4' := kid_some _ b _ _ _ _ _ _ _ _ wr hNd 0 k (by omega) (by omega) (Lib.hid (by decide)) (by rw [show cnt 0 1 = 0 from by simp [cnt]]; rfl) (by simp)
            unfold at0 at k1' k2' k3' k4'
            clear hT hNd
            go_wp2_with fail
            refine k1'.mono ?_
            rintro e w5 ⟨rfl, rfl⟩
            go_wp2_with fail
            refine k2'.mono ?_
            rintro e w5 ⟨rfl, rfl⟩
            go_wp2_with fail
            refine k3'.mono ?_
            rintro e w5 ⟨rfl, rfl⟩
            go_wp2_with fail
            refine k4'.mono ?_
            rintro e w5 ⟨rfl, hB5⟩
            have hTk := Trie.below hTk hB5
            have hR := hR.below hB5
            have hB := hB.trans (hB5.mono hB.size)
            simp only [pt, at0, Option.isSome_some]
            clear k1' k2' k3' k4' hB5
            go_wp2_with fail
            exact ⟨⟨i + 1, k, n', G, by omega, by go_num, rfl, hTk, hR, hB⟩, by simp [intOf]; omega⟩
          · obtain rfl : i = 13 := by omega
            obtain rfl : n = 0 := by omega
            obtain ⟨ow, pv, kv, hNd⟩ := coll_end hT
            have k1' := isBucket_any _ _ _ _ _ _ _ _ _ _ wr hNd
            have k2' := pairs_any _ _ _ _ _ _ _ _ _ _ wr hNd (by omega)
            unfold at0 at k1' k2'
            clear hT hNd
            go_wp2_with fail
            refine k1'.mono ?_
            rintro e w5 ⟨rfl, rfl⟩
            go_wp2_with fail
            refine k2'.mono ?_
            rintro e w5 ⟨v, rfl, hO5, hB5⟩
            have hR := hR.below hB5
            have hB := hB.trans (hB5.mono hB.size)
            obtain ⟨A8, c8, rfl, hR8, -⟩ := hO5.lie
            have ksm := same_any A8 A9 c8 c9 S S w5 hR8 hR (by omega) (by omega)
            clear k1' k2' hB5 hO5 hR8
            go_wp2_with fail
            refine ksm.mono ?_
            rintro e w6 ⟨rfl, n6, rfl⟩
            have hl : leq S S = true := by simp [leq]
            rw [hl]
            have hB := Sip.below_drewN hB n6
            go_wp2_with fail
            go_ret
            exact ⟨rfl, hB⟩

/-! ### THE ROW's STEP -/
set_option maxRecDepth 100000 in
theorem lifted (os : Os) (started : os.Started) (H : Type) (enc : TypeId × Value → H) :
    ReturnsInHanded {} Try.checked os 3 .any (Rows.champCollidesSpec.pre6 enc Try.prog Try.f3 Rows.champCollidesRow.domain false) (Rows.champCollidesSpec.post enc Try.prog Try.f3 false true false false) := by
  refine returnsInHanded_of_change (C := Try.checked) own started (by kernel_rfl) Try.func3
    (ChangeSpec.witness6 (enc := enc) (C := Try.checked) false ⟨#[], #[.agg #[.int .u64 0, .int .u64 0], .slice none 0 0], []⟩ 8 (by kernel_rfl) (by kernel_rfl) (by kernel_rfl) (by kernel_rfl)) ?_
  intro W base args ds gs before hval0 hW hcnd _
  have hval : ∀ (j : Nat) t v, Try.f3.params[j]? = some t → args[j]? = some v → Value.okWide Try.prog W .any base t v := hval0
  have hW' := hW
  obtain ⟨p, q, hA0, hV, rfl, hfz, hnd⟩ := hW
  have hA : DataW.TrodAll enc Try.prog W 0 (fun _ => true) true Try.f3.params.toList args.toList ds p := hA0
  rw [Try.params3] at hA hval
  obtain ⟨v0, vs0, d0, ds0, p0, q0, hargs, rfl, rfl, h0, r0⟩ := trodAll_cons hA
  obtain ⟨v1, vs1, d1, ds1, p1, q1, rfl, rfl, rfl, h1, r1⟩ := trodAll_cons r0
  obtain ⟨rfl, rfl, rfl⟩ := trodAll_nil r1
  obtain rfl : args = #[v0, v1] := by cases args; simp_all
  obtain ⟨rfl, rfl⟩ := trodVars_none hV
  have k0 := h0
  have lt0 : ∀ x ∈ p0, x.block < W.heap.size := by obtain ⟨m, hm⟩ := k0; exact DataW.trod_lt m _ _ _ hm
  obtain ⟨x0, y0, rfl, u0, t0⟩ := open_key (hval 0 24 v0 rfl rfl) h0
  obtain ⟨a1, len1, cap1, rfl⟩ := okWide_slice Try.underlying25 (hval 1 25 v1 rfl rfl)
  have k1 := h1
  have lt1 : ∀ x ∈ p1, x.block < W.heap.size := by obtain ⟨m, hm⟩ := k1; exact DataW.trod_lt m _ _ _ hm
  obtain ⟨z1, w1⟩ := open_pairs h1
  clear hA0 hval0
  refine (walk x0 y0 a1 len1 cap1 z1 W u0 t0 w1).mono fun e W' ⟨he, bel⟩ => ?_
  subst he
  exact ⟨_, rfl, _, _, _, [], _, [], hW', trodAll_mk1 (shut_bool Try.underlying4 _), (trodAll_cons_mk (Below.trod laidOut (by kernel_rfl) (of_decide_eq_true (by kernel_rfl)) k0 bel lt0) (trodAll_cons_mk (Below.trod laidOut (by kernel_rfl) (of_decide_eq_true (by kernel_rfl)) k1 bel lt1) trodAll_mk0)), rfl, bel.frame _, fun h => by cases h⟩

theorem over : Rows.champCollidesRow.holds Try.pinned (OpenSpec.ofChange Rows.champCollidesSpec) :=
  OpenClaim.holds_of_wide 3 Try.f3 rfl rfl rfl rfl rfl rfl rfl ⟨rfl, rfl, rfl, rfl, rfl⟩ rfl rfl rfl rfl rfl (by kernel_rfl) Try.func3 (by kernel_rfl)
    (of_decide_eq_true (by kernel_rfl)) (by unfold Func.isWrapper; first | (rw [if_pos (by decide +kernel)]; kernel_rfl) | (rw [if_neg (by decide +kernel)]; exact ⟨rfl, rfl⟩))
    (fun os started H enc _ => lifted os started H enc)

theorem proved : Rows.ChampCollidesSaid := over
#print axioms proved
end Go.Proofs.Ytfmbikmpobieoaa.champCollides
