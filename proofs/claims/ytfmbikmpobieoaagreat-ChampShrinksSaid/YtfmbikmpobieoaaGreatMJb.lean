/- ChampShrinks, part by part. -/
import Derived.Test.YtfmbikmpobieoaaGreatMJa
import Derived.BigQuiet
import Derived.Deep.RegionHeld3
namespace Go.Proofs.YtfmbikmpobieoaaGreat.champShrinks
open Go.ChangeShapes Go.WideShapes Go.RowKit Go.Lib
set_option linter.unusedVariables false
set_option linter.unusedSimpArgs false
set_option maxRecDepth 100000
attribute [local irreducible] cnt
noncomputable def shr12 : Code := (Tryz.f8.body.bind (fromRegion 12)).getD .skip
set_option maxHeartbeats 16000000 in
theorem shr12_any (post : Ending → World → Prop) (k0 k1 m : Int) (w0 w : World) (h0 : U64 k0) (h1 : U64 k1) (a2 : Option Addr) (len2 cap2 : Nat) (ps2 : List Pr) (hp2 : ArgP w0 a2 len2 cap2 ps2) (a3 : Option Addr) (len3 cap3 : Nat) (zs : List Int) (hrow : IsRow .u8 w0 a3 len3 cap3 zs) (N4 bn : Nat) (X : List Pr) (v10 : Value)
    (hB0 : Below w0.heap.size w0 w) (hTn : TP k0 k1 m w0.heap.size w bn X) (hOx : OwnR w0.heap.size w v10 X) (hH : Blk w N4 26 #[.int .u64 k0, .int .u64 k1, .int .u64 m]) (hrX : RisesL X) (hlX : X.length ≤ 25) (hzX : ∀ x ∈ X, x.1.size ≤ 40) (hpost : ∀ w', Below w0.heap.size w0 w' → post (.returned (.bool true)) w') (x0 x1 x5 x6 x7 x8 x11 x12 x13 x14 x15 x16 x17 x18 x19 x20 x21 x22 x23 x24 x25 x26 x27 x28 x29 x30 x31 x32 x33 x34 x35 x36 x37 x38 x39 x40 x41 x42 x43 x44 x45 x46 x47 x48 x49 x50 x51 x52 x53 x54 x55 x56 x57 x58 x59 x60 x61 x62 x63 x64 x65 x66 x67 x68 x69 x70 x71 x72 x73 x74 x75 x76 x77 x78 x79 x80 x81 x82 x83 x84 x85 x86 x87 x88 x89 x90 x91 x92 x93 x94 x95 x96 x97 x98 x99 x100 x101 x102 x103 x104 x105 x106 x107 x108 x109 x110 x111 x112 x113 x114 x115 x116 x117 x118 x119 x120 x121 x122 x123 x124 x125 x126 x127 x128 x129 x130 x131 x132 x133 x134 x135 x136 x137 x138 x139 x140 x141 x142 x143 x144 : Value) :
    Code.wp Tryz.prog shr12 (bodyPost Tryz.prog Tryz.f8 post) ⟨#[x0, x1, .slice a2 len2 cap2, .slice a3 len3 cap3, .pointer (some ⟨N4, 0, none⟩), x5, x6, x7, x8, .pointer (some ⟨bn, 0, none⟩), v10, x11, x12, x13, x14, x15, x16, x17, x18, x19, x20, x21, x22, x23, x24, x25, x26, x27, x28, x29, x30, x31, x32, x33, x34, x35, x36, x37, x38, x39, x40, x41, x42, x43, x44, x45, x46, x47, x48, x49, x50, x51, x52, x53, x54, x55, x56, x57, x58, x59, x60, x61, x62, x63, x64, x65, x66, x67, x68, x69, x70, x71, x72, x73, x74, x75, x76, x77, x78, x79, x80, x81, x82, x83, x84, x85, x86, x87, x88, x89, x90, x91, x92, x93, x94, x95, x96, x97, x98, x99, x100, x101, x102, x103, x104, x105, x106, x107, x108, x109, x110, x111, x112, x113, x114, x115, x116, x117, x118, x119, x120, x121, x122, x123, x124, x125, x126, x127, x128, x129, x130, x131, x132, x133, x134, x135, x136, x137, x138, x139, x140, x141, x142, x143, x144], []⟩ w := by
  obtain ⟨A10, c10, rfl, -⟩ := hOx.rd
  obtain ⟨i9, hi9, hy90, hy91, hy92⟩ := info_parts info9
  have HF := Lib.hid (fun wr bm Y K v14 hB hTn hOx hH hTm hOk hrY hlY hzK hlK hXY => shr22_any post k0 k1 m w0 wr h0 h1 a3 len3 cap3 zs hrow N4 bn bm X Y K (.slice A10 X.length c10) v14 hB hTn hOx hH hrX hlX hzX hpost hTm hOk hrY hlY hzK hlK hXY)
  have hl2 := hp2.len_le
  have HA2 := Lib.hid hp2
  clear hpost hrow hp2
  simp only []
  conv => arg 2; whnf
  go_wp2_with fail
  go_loopw [13, 14, 51] (fun v13 v14 vi wr => ∃ (j bm : Nat) (Y : List Pr) (K : List ByteArray), j ≤ len2 ∧ vi = .int .i64 j ∧ v13 = .pointer (some ⟨bm, 0, none⟩) ∧ RisesL Y ∧ Y.length ≤ 25 + K.length ∧ (∀ x ∈ Y, x.1.size ≤ 40) ∧ (∀ k ∈ K, k.size ≤ 40) ∧ K.length ≤ j ∧ K.length ≤ 20 ∧ Hid (∀ p, p ∈ X ↔ p ∈ Y ∧ p.1 ∉ K) ∧ TP k0 k1 m w0.heap.size wr bm Y ∧ OwnS w0.heap.size wr v14 K ∧ TP k0 k1 m w0.heap.size wr bn X ∧ OwnR w0.heap.size wr (.slice A10 X.length c10) X ∧ Blk wr N4 26 #[.int .u64 k0, .int .u64 k1, .int .u64 m] ∧ Below w0.heap.size w0 wr) (fun v13 v14 vi wr => len2 - (intOf vi).toNat)
  case atStart => exact ⟨0, bn, X, [], by omega, rfl, rfl, hrX, by simpa using hlX, hzX, by simp, by simp, by simp, Lib.hid (fun p => by simp), hTn, OwnS.nil _ _, hTn, hOx, hH, hB0⟩
  case round =>
    clear hTn hOx hH hB0
    obtain ⟨j, bq, Y, K, hj, rfl, rfl, hrY, hlY, hzY, hzK, hlKj, hlK, HXY, hTm, hOk, hTn, hOx, hH, hB⟩ := hrel
    by_cases hlt : j < len2
    · obtain ⟨x, q, rfl, c0, c1⟩ := HA2.out.at hB j hlt
      have L1 : (j : Int) < (len2 : Int) := by omega
      have L2 : IntKind.i64.wrap ((j : Int) + 1) = ((j + 1 : Nat) : Int) := by rw [IntWalk.i64_in _ (by omega)]; omega
      go_upto_region 17 with (fail)
      have hBl := (Below.refl _ wr).alloc (Nat.le_refl _) (.cells #[.string q.1, .string q.2] 34)
      have hP := Blk.new wr 34 #[.string q.1, .string q.2]
      have hB := hB.trans (hBl.mono hB.size)
      have hTn := hTn.below hBl
      have hOx := hOx.below' hBl
      have hTm := hTm.below hBl
      have hOk := hOk.below hBl
      have hH := hH.below hBl

      clear hBl c0 c1
      generalize wr.alloc (.cells #[.string q.1, .string q.2] 34) = W1 at *
      generalize wr.heap.size = NP at *
      have hp1 : (few40 q).1.size ≤ 40 := cut40_size q.1
      obtain ⟨p, hp⟩ : ∃ p, p = few40 q := ⟨_, rfl⟩
      rw [← hp] at hp1
      have hp1000 : p.1.size ≤ 1000 := by omega
      have p0 : W1.cell? ⟨NP, 0, none⟩ = some (.string q.1) := hP.cell 0
      have p1 : W1.cell? ⟨NP, 1, none⟩ = some (.string q.2) := hP.cell 1
      have HPF := Lib.hid hp
      clear hp
      go_wp2_with fail
      refine (few_any q W1).mono ?_
      rintro e w2 ⟨rfl, hB2⟩
      rw [← HPF.out]
      have hB := hB.trans (hB2.mono hB.size)
      have hTn := hTn.below hB2
      have hOx := hOx.below' hB2
      have hTm := hTm.below hB2
      have hOk := hOk.below hB2
      have hH := hH.below hB2

      have hP := hP.below hB2
      have hfl := field0 p.1 p.2 w2
      obtain ⟨A', c', e', hR⟩ := hOx.rd
      simp only [Value.slice.injEq] at e'
      obtain ⟨rfl, -, rfl⟩ := e'
      have kg := refGet_any A10 c10 X p.1 w2 hR hrX (by omega) (sized_mem fun x hx => Nat.le_trans (hzX x hx) (by unfold maxLen; omega)) (by unfold maxLen; omega)
      clear p0 p1 hB2 hR
      go_wp2_with fail
      refine kg.mono ?_
      rintro e w3 ⟨rfl, hB3⟩
      have hB := hB.trans (hB3.mono hB.size)
      have hTn := hTn.below hB3
      have hOx := hOx.below' hB3
      have hTm := hTm.below hB3
      have hOk := hOk.below hB3
      have hH := hH.below hB3

      have hP := hP.below hB3
      clear kg hB3 hfl
      by_cases hgo : j < 20 ∧ getK X p.1 = none
      · obtain ⟨h20, hg⟩ := hgo
        have G : (j : Int) < 20 := by omega
        rw [hg]
        simp only [Option.isSome_none, Option.getD_none]
        have kp := fun w' (hw : w0.heap.size ≤ w'.heap.size) (hT : TP k0 k1 m w0.heap.size w' bq Y) => put_plain p h0 h1 hp1000 hw hT hrY (by omega) (fun x hx => Nat.le_trans (hzY x hx) (by omega))
        go_upto_region 19 with (fail)
        have hS0 : (fun w' : World => w'.cell? ⟨N4, 0, none⟩ = some (.int .u64 k0) ∧ w'.cell? ⟨N4, 1, none⟩ = some (.int .u64 k1) ∧ w'.cell? ⟨N4, 2, none⟩ = some (.int .u64 m) ∧ w'.cell? ⟨NP, 0, none⟩ = some (.string q.1) ∧ w'.cell? ⟨NP, 1, none⟩ = some (.string q.2)) w3.drew := ⟨hH.cell 0, hH.cell 1, hH.cell 2, hP.cell 0, hP.cell 1⟩
        have hdr : Below w3.heap.size w3 w3.drew := (Below.refl _ w3).drew
        have hB := hB.trans (hdr.mono hB.size)
        have hTn := hTn.below hdr
        have hOx := hOx.below' hdr
        have hTm := hTm.below hdr
        have hOk := hOk.below hdr
        have hH := hH.below hdr

        have hP := hP.below hdr
        have kfew := fun w' => few_any q w'
        rw [← HPF.out] at kfew
        clear hdr
        refine wp_region_held_drew (S := fun w' : World => w'.cell? ⟨N4, 0, none⟩ = some (.int .u64 k0) ∧ w'.cell? ⟨N4, 1, none⟩ = some (.int .u64 k1) ∧ w'.cell? ⟨N4, 2, none⟩ = some (.int .u64 m) ∧ w'.cell? ⟨NP, 0, none⟩ = some (.string q.1) ∧ w'.cell? ⟨NP, 1, none⟩ = some (.string q.2)) (by kernel_rfl) hS0 ?_
        intro hS
        refine wpAnyH_take (i := 0) (oi := { dst := some 71, op := Go.Op.load 26 (Go.Operand.tmp 4), type := 26, pos := "law.go:269", after := #[], guard := none }) (v := .agg #[.int .u64 k0, .int .u64 k1, .int .u64 m]) rfl (by kernel_rfl) (by kernel_rfl) (by kernel_rfl) (fun _ _ _ h => h) (Or.inl ⟨by rfl, fun w hSw => ?_⟩) hS ?_
        · go_split_ands
          go_simp
        try simp only [Act.put, List.setIfInBounds_toArray, List.set_cons_zero, List.set_cons_succ]
        refine wpAnyH_take (i := 1) (oi := { dst := some 72, op := Go.Op.move (Go.Operand.tmp 13), type := 30, pos := "law.go:269", after := #[], guard := none }) (v := .pointer (some ⟨bq, 0, none⟩)) rfl (by kernel_rfl) (by kernel_rfl) (by kernel_rfl) (fun _ _ _ h => h) (Or.inl ⟨by rfl, fun w hSw => ?_⟩) hS ?_
        · go_split_ands
          go_simp
        try simp only [Act.put, List.setIfInBounds_toArray, List.set_cons_zero, List.set_cons_succ]
        refine wpAnyH_take (i := 2) (oi := { dst := some 73, op := Go.Op.load 34 (Go.Operand.tmp 16), type := 34, pos := "law.go:269", after := #[], guard := none }) (v := .agg #[.string q.1, .string q.2]) rfl (by kernel_rfl) (by kernel_rfl) (by kernel_rfl) (fun _ _ _ h => h) (Or.inl ⟨by rfl, fun w hSw => ?_⟩) hS ?_
        · go_split_ands
          go_simp
        try simp only [Act.put, List.setIfInBounds_toArray, List.set_cons_zero, List.set_cons_succ]
        refine wpAnyH_ready (rs := [3]) (by kernel_rfl) (by simp) ?_
        refine AllReadyH.cons (o := { dst := some 74, op := Go.Op.call { callee := Go.Callee.value (Go.Operand.func 11), args := #[Go.Operand.tmp 73], argTypes := #[34] }, type := 34, pos := "law.go:269", after := #[{ on := 2, ground := Go.Ground.data }], guard := none }) rfl (fun K hK => ?_) AllReadyH.nil
        go_simp
        refine (kfew _).mono ?_
        rintro e wA ⟨rfl, hBA⟩
        go_wp2_with fail
        have hSn := keep5 hS hBA
        refine hK.out _ _ hSn (fun _ => ?_)
        clear hK K hS
        try simp only [Act.put, List.setIfInBounds_toArray, List.set_cons_zero, List.set_cons_succ]
        have hS := hSn
        clear hSn
        have hB := hB.trans (hBA.mono hB.size)
        have hTn := hTn.below hBA
        have hOx := hOx.below' hBA
        have hH := hH.below hBA
        have hP := hP.below hBA
        have hOk := hOk.below hBA
        have hTm := hTm.below hBA
        clear hBA
        refine wpAnyH_ready (rs := [4]) (by kernel_rfl) (by simp) ?_
        refine AllReadyH.cons (o := { dst := some 75, op := Go.Op.call { callee := Go.Callee.value (Go.Operand.func 15), args := #[Go.Operand.tmp 71, Go.Operand.const (Go.Value.pointer none), Go.Operand.tmp 72, Go.Operand.tmp 74], argTypes := #[26, 56, 30, 34] }, type := 40, pos := "law.go:269", after := #[{ on := 0, ground := Go.Ground.data }, { on := 1, ground := Go.Ground.data }, { on := 3, ground := Go.Ground.data }, { on := 3, ground := Go.Ground.chain }], guard := none }) rfl (fun K hK => ?_) AllReadyH.nil
        go_simp
        refine (kp _ hB.size hTm).mono ?_
        rintro e wC ⟨b1, rfl, hT1, hBC, -⟩
        go_wp2_with fail
        have hSn := keep5 hS hBC
        refine hK.out _ _ hSn (fun _ => ?_)
        clear hK K hS
        try simp only [Act.put, List.setIfInBounds_toArray, List.set_cons_zero, List.set_cons_succ]
        have hS := hSn
        clear hSn
        have hB := hB.trans (hBC.mono hB.size)
        have hTn := hTn.below hBC
        have hOx := hOx.below' hBC
        have hH := hH.below hBC
        have hP := hP.below hBC
        have hOk := hOk.below hBC
        clear hBC
        refine wpAnyH_take (i := 5) (oi := { dst := some 70, op := Go.Op.move (Go.Operand.tmp 75), type := 40, pos := "law.go:269", after := #[{ on := 4, ground := Go.Ground.data }], guard := none }) (v := .tuple #[.pointer (some ⟨b1, 0, none⟩), .bool (getK Y p.1).isNone]) rfl (by kernel_rfl) (by kernel_rfl) (by kernel_rfl) (fun _ _ _ h => h) (Or.inl ⟨by rfl, fun w hSw => ?_⟩) hS ?_
        · go_split_ands
          go_simp
        try simp only [Act.put, List.setIfInBounds_toArray, List.set_cons_zero, List.set_cons_succ]
        refine wpAnyH_take (i := 6) (oi := { dst := some 76, op := Go.Op.extract (Go.Operand.tmp 70) 0, type := 30, pos := "law.go:269", after := #[{ on := 5, ground := Go.Ground.data }], guard := none }) (v := .pointer (some ⟨b1, 0, none⟩)) rfl (by kernel_rfl) (by kernel_rfl) (by kernel_rfl) (fun _ _ _ h => h) (Or.inl ⟨by rfl, fun w hSw => ?_⟩) hS ?_
        · go_split_ands
          go_simp
        try simp only [Act.put, List.setIfInBounds_toArray, List.set_cons_zero, List.set_cons_succ]
        refine wpAnyH_take (i := 7) (oi := { dst := some 77, op := Go.Op.extract (Go.Operand.tmp 70) 1, type := 4, pos := "law.go:269", after := #[{ on := 5, ground := Go.Ground.data }, { on := 8, ground := Go.Ground.gcOnly Go.Departure.lateStores }], guard := none }) (v := .bool (getK Y p.1).isNone) rfl (by kernel_rfl) (by kernel_rfl) (by kernel_rfl) (fun _ _ _ h => h) (Or.inl ⟨by rfl, fun w hSw => ?_⟩) hS ?_
        · go_split_ands
          go_simp
        try simp only [Act.put, List.setIfInBounds_toArray, List.set_cons_zero, List.set_cons_succ]
        refine wpAnyH_take (i := 8) (oi := { dst := some 13, op := Go.Op.assign (Go.Operand.tmp 76), type := 30, pos := "law.go:269", after := #[{ on := 6, ground := Go.Ground.data }, { on := 4, ground := Go.Ground.chain }, { on := 0, ground := Go.Ground.phase }, { on := 1, ground := Go.Ground.phase }, { on := 2, ground := Go.Ground.phase }, { on := 3, ground := Go.Ground.phase }, { on := 4, ground := Go.Ground.phase }, { on := 5, ground := Go.Ground.phase }, { on := 6, ground := Go.Ground.phase }, { on := 7, ground := Go.Ground.textOnly Go.Departure.lateStores }], guard := none }) (v := .pointer (some ⟨b1, 0, none⟩)) rfl (by kernel_rfl) (by kernel_rfl) (by kernel_rfl) (fun _ _ _ h => h) (Or.inl ⟨by rfl, fun w hSw => ?_⟩) hS ?_
        · go_split_ands
          go_simp
        try simp only [Act.put, List.setIfInBounds_toArray, List.set_cons_zero, List.set_cons_succ]
        refine wpAnyH_done (by kernel_rfl) ?_ _

        clear hS kp hTm kfew
        have p0 : wC.cell? ⟨NP, 0, none⟩ = some (.string q.1) := hP.cell 0
        have p1 : wC.cell? ⟨NP, 1, none⟩ = some (.string q.2) := hP.cell 1
        generalize (getK Y p.1).isNone = gb at *
        go_wp2_with fail
        refine (few_any q wC).mono ?_
        rintro e w6 ⟨rfl, hB6⟩
        rw [← HPF.out]
        have hTm := hT1
        have hB := hB.trans (hB6.mono hB.size)
        have hTn := hTn.below hB6
        have hOx := hOx.below' hB6
        have hTm := hTm.below hB6
        have hOk := hOk.below hB6
        have hH := hH.below hB6

        have hfl := field0 p.1 p.2 w6
        clear p0 p1 hB6 hT1 hP
        have hBc := (Below.refl _ w6).alloc (Nat.le_refl _) (.cells #[.string p.1] 9)
        have hB := hB.trans (hBc.mono hB.size)
        have hTn := hTn.below hBc
        have hOx := hOx.below' hBc
        have hTm := hTm.below hBc
        have hOk := hOk.below hBc
        have hH := hH.below hBc

        have hrow : (w6.alloc (.cells #[.string p.1] 9)).ownsRow w0.heap.size 9 1 u14 K.length (scs K) := hOk
        have hsz6 := hB.size
        have hTm6 := Lib.hid hTm
        have hTn6 := Lib.hid hTn
        have hOx6 := Lib.hid hOx
        have hH6 := Lib.hid hH
        have HB6 := Lib.hid hB
        clear hTm hTn hOx hH hB hOk hBc
        go_wp2_with (at_builtin; refine wpList_append_own_at _ rfl _ _ 28 rfl w0.heap.size 9 i9 _ 1 16 Tryz.underlying28 hi9 hy90 hy91 hy92 zsz_str (by decide) _ _ _ rfl hrow ⟨w6.heap.size, 0, none⟩ 1 1 [.string p.1] rfl rfl (cell_one_new _ _ _) (by simp [Value.oneCell']) (by unfold maxLen; omega) (by omega) hsz6 ?_; intro v' wa hown' hgrow hnil hat)
        replace hgrow : (w6.alloc (.cells #[.string p.1] 9)).grownBy wa u14.ownBlock := hgrow
        have kk := keep_grown hgrow
        have hty : ∀ x, u14.ownBlock = some x → ∃ cs, Blk (w6.alloc (.cells #[.string p.1] 9)) x 9 cs := fun x hx => own_cells hrow x hx
        have hTP : ∀ b ps, TP k0 k1 m w0.heap.size (w6.alloc (.cells #[.string p.1] 9)) b ps → TP k0 k1 m w0.heap.size wa b ps := fun b ps hT => by
          cases hu : u14.ownBlock with
          | none => exact hT.below ((keep_grown (by rw [hu] at hgrow; exact hgrow)).below (Nat.le_refl _) (by simp))
          | some x =>
            obtain ⟨cs, hb⟩ := hty x hu
            exact hT.apart hb (by decide) (by decide) (by decide) (by decide) (by rw [hu] at kk; exact kk)
        have hfin : OwnS w0.heap.size wa v' (K ++ [p.1]) := by
          unfold OwnS
          rw [List.length_append]
          have e1 : scs (K ++ [p.1]) = scs K ++ [.string p.1] := by simp [scs]
          rw [e1]; exact hown'
        have hOx7 : OwnR w0.heap.size wa (.slice A10 X.length c10) X := own_keep hOx6.out kk (fun x hx e => by
          have hx' : u14.ownBlock = some x := by simpa using hx
          obtain ⟨cs, hb⟩ := hty x hx'
          obtain ⟨cur, hc⟩ := own_cells hOx6.out x e
          unfold Blk at hb
          rw [hc] at hb
          simp at hb)
        have hH7 := hH6.out.keep kk (fun hm => by
          have hx' : u14.ownBlock = some N4 := by simpa using hm
          obtain ⟨cs, hb⟩ := hty N4 hx'
          have h26 := hH6.out
          unfold Blk at hb h26
          rw [h26] at hb
          simp at hb)
        refine ⟨⟨j + 1, b1, putK Y p, K ++ [p.1], by omega, by go_num, rfl, put_rises _ hrY, ?_, ?_, ?_, by simp; omega, by simp; omega, Lib.hid (shr_add HXY.out hg), hTP _ _ hTm6.out, hfin, hTP _ _ hTn6.out, hOx7, hH7, HB6.out.grown hgrow hsz6 (own_ge hrow)⟩, by simp [intOf]; omega⟩
        · have := put_len (ps := Y) p
          simp; omega
        · intro z hz
          rcases put_sets.1 hz with rfl | ⟨h, _⟩
          · exact hp1
          · exact hzY z h
        · intro k hk
          rcases List.mem_append.1 hk with h | h
          · exact hzK k h
          · rw [List.mem_singleton] at h; rw [h]; exact hp1
      · by_cases h20 : j < 20
        · have G : (j : Int) < 20 := by omega
          have hgs : (getK X p.1).isSome = true := by
            cases hg : getK X p.1 with
            | none => exact absurd ⟨h20, hg⟩ hgo
            | some v => rfl
          rw [hgs]
          clear hgo hP
          generalize (getK X p.1).getD ⟨#[]⟩ = gd at *
          go_wp2_with fail
          exact ⟨⟨j + 1, bq, Y, K, by omega, by go_num, rfl, hrY, hlY, hzY, hzK, by omega, hlK, HXY, hTm, hOk, hTn, hOx, hH, hB⟩, by simp [intOf]; omega⟩
        · have G : ¬ ((j : Int) < 20) := by omega
          clear hgo hP
          generalize (getK X p.1).getD ⟨#[]⟩ = gd at *
          generalize (getK X p.1).isSome = gs at *
          go_wp2_with fail
          exact ⟨⟨j + 1, bq, Y, K, by omega, by go_num, rfl, hrY, hlY, hzY, hzK, by omega, hlK, HXY, hTm, hOk, hTn, hOx, hH, hB⟩, by simp [intOf]; omega⟩
    · obtain rfl : j = len2 := by omega
      have G : ¬ ((j : Int) < (j : Int)) := by omega
      have HFF := Lib.hid (HF.out wr bq Y K u14 hB hTn hOx hH hTm hOk hrY (by omega) hzK hlK HXY.out)
      clear HF hTn hOx hH hTm hOk HA2
      repeat (first | exact HFF.out _ _ _ _ _ _ _ _ _ _ _ _ _ _ _ _ _ _ _ _ _ _ _ _ _ _ _ _ _ _ _ _ _ _ _ _ _ _ _ _ _ _ _ _ _ _ _ _ _ _ _ _ _ _ _ _ _ _ _ _ _ _ _ _ _ _ _ _ _ _ _ _ _ _ _ _ _ _ _ _ _ _ _ _ _ _ _ _ _ _ _ _ _ _ _ _ _ _ _ _ _ _ _ _ _ _ _ _ _ _ _ _ _ _ _ _ _ _ _ _ _ _ _ _ _ _ _ _ _ _ _ _ _ _ _ _ _ _ _ | go_step)
end Go.Proofs.YtfmbikmpobieoaaGreat.champShrinks
