/- ChampOrders, part by part. -/
import Derived.Test.YtfmbikmpobieoaaGreatMKo
import Derived.BigQuiet
import Derived.Deep.RegionHeld3
import Derived.Test.YtfmbikmpobieoaaGreatMG
namespace Go.Proofs.YtfmbikmpobieoaaGreat.champOrders
open Go.ChangeShapes Go.WideShapes Go.RowKit Go.Lib
set_option linter.unusedVariables false
set_option linter.unusedSimpArgs false
set_option maxRecDepth 100000
attribute [local irreducible] cnt
theorem pat_eq {xs : List Pr} {j : Nat} (h : j < xs.length) : pat xs j = xs[j] := by
  have := pat_get (xs := xs) (p := j) h
  rw [List.getElem?_eq_getElem h] at this
  exact (Option.some.inj this).symm
theorem sw_mem {xs : List Pr} {i j : Nat} (hi : i < xs.length) (hj : j < xs.length) (p : Pr) : p ∈ sw xs i j ↔ p ∈ xs := by
  unfold sw
  rw [pat_eq hi, pat_eq hj]
  exact swap_mem hi hj p
noncomputable def ord18 : Code := (Tryz.f6.body.bind (fromRegion 18)).getD .skip
set_option maxHeartbeats 16000000 in
theorem ord18_any (post : Ending → World → Prop) (k0 k1 m : Int) (w0 w : World) (h0 : U64 k0) (h1 : U64 k1) (N4 bn bm : Nat) (S : List Pr) (A9 : Option Addr) (c9 : Nat)
    (hB0 : Below w0.heap.size w0 w) (hTn : TP k0 k1 m w0.heap.size w bn S) (hR9 : Rd w A9 S) (hH : Blk w N4 26 #[.int .u64 k0, .int .u64 k1, .int .u64 m]) (hrS : RisesL S) (hlS : S.length ≤ 30) (hzS : ∀ x ∈ S, x.1.size ≤ 40) (hpost : ∀ w', Below w0.heap.size w0 w' → post (.returned (.bool true)) w') (a2 : Option Addr) (len2 cap2 : Nat) (zs : List Int) (hrow : IsRow .u8 w0 a2 len2 cap2 zs) (a3 : Option Addr) (len3 cap3 : Nat) (ps3 : List Pr) (hp3 : ArgP w0 a3 len3 cap3 ps3) (hTm : TP k0 k1 m w0.heap.size w bm [])
    (w2 : World) (hB12 : Below w.heap.size w w2) (T0 : List Pr) (TL : Nat) (A16 : Option Addr) (c16 : Nat) (hOt : Own w.heap.size w2 (.slice A16 TL c16) T0) (hlT : T0.length = TL) (hTL : TL = S.length) (hTS : ∀ p, p ∈ T0 ↔ p ∈ S) (x0 x1 x5 x6 x7 x8 x10 x11 x14 x15 x17 x18 x19 x20 x21 x22 x23 x24 x25 x26 x27 x28 x29 x30 x31 x32 x33 x34 x35 x36 x37 x38 x39 x40 x41 x42 x43 x44 x45 x46 x47 x48 x49 x50 x51 x52 x53 x54 x55 x56 x57 x58 x59 x60 x61 x62 x63 x64 x65 x66 x67 x68 x69 x70 x71 x72 x73 x74 x75 x76 x77 x78 x79 x80 x81 x82 x83 x84 x85 x86 x87 x88 x89 x90 x91 x92 x93 x94 x95 x96 x97 x98 x99 x100 x101 x102 x103 x104 x105 x106 x107 x108 x109 x110 x111 x112 x113 x114 x115 x116 x117 x118 x119 x120 x121 x122 x123 x124 x125 x126 x127 x128 x129 x130 x131 x132 x133 x134 x135 x136 x137 x138 x139 x140 x141 x142 x143 x144 x145 x146 x147 x148 x149 x150 x151 x152 x153 x154 x155 x156 x157 x158 x159 x160 x161 x162 x163 x164 x165 x166 x167 x168 x169 x170 x171 x172 x173 x174 x175 x176 x177 x178 x179 x180 x181 x182 x183 x184 x185 x186 x187 : Value) :
    Code.wp Tryz.prog ord18 (bodyPost Tryz.prog Tryz.f6 post) ⟨#[x0, x1, .slice a2 len2 cap2, .slice a3 len3 cap3, .pointer (some ⟨N4, 0, none⟩), x5, x6, x7, x8, .slice A9 S.length c9, x10, x11, .pointer (some ⟨bn, 0, none⟩), .pointer (some ⟨bm, 0, none⟩), x14, x15, .slice A16 TL c16, x17, x18, x19, x20, x21, x22, x23, x24, x25, x26, x27, x28, x29, x30, x31, x32, x33, x34, x35, x36, x37, x38, x39, x40, x41, x42, x43, x44, x45, x46, x47, x48, x49, x50, x51, x52, x53, x54, x55, x56, x57, x58, x59, x60, x61, x62, x63, x64, x65, x66, x67, x68, x69, x70, x71, x72, x73, x74, x75, x76, x77, x78, x79, x80, x81, x82, x83, x84, x85, x86, x87, x88, x89, x90, x91, x92, x93, x94, x95, x96, x97, x98, x99, x100, x101, x102, x103, x104, x105, x106, x107, x108, x109, x110, x111, x112, x113, x114, x115, x116, x117, x118, x119, x120, x121, x122, x123, x124, x125, x126, x127, x128, x129, x130, x131, x132, x133, x134, x135, x136, x137, x138, x139, x140, x141, x142, x143, x144, x145, x146, x147, x148, x149, x150, x151, x152, x153, x154, x155, x156, x157, x158, x159, x160, x161, x162, x163, x164, x165, x166, x167, x168, x169, x170, x171, x172, x173, x174, x175, x176, x177, x178, x179, x180, x181, x182, x183, x184, x185, x186, x187], []⟩ w2 := by
  have HF := Lib.hid (fun wr (T : List Pr) At ct hB (hBw : Below w.heap.size w wr) hRt (e : T.length = S.length) hTS => ord25_any post k0 k1 m w0 wr h0 h1 N4 bn bm S A9 c9 hB (hTn.below hBw) (hR9.below hBw) (hH.below hBw) hrS hlS hzS hpost a3 len3 cap3 ps3 hp3 T At ct (hTm.below hBw) hRt e hTS)
  have hl2 := hrow.len_le
  have HR2 := Lib.hid hrow
  have HTL := Lib.hid hTL
  have HB0 := Lib.hid hB0
  have hTL30 : TL ≤ 30 := by omega
  clear hpost hp3 hTm hTn hR9 hH hrow hTL hB0
  simp only []
  conv => arg 2; whnf
  go_wp2_with fail
  go_loopw [70] (fun vi wr => ∃ (j : Nat) (T : List Pr), j ≤ TL ∧ vi = .int .i64 j ∧ T.length = TL ∧ (∀ p, p ∈ T ↔ p ∈ S) ∧ Own w.heap.size wr (.slice A16 TL c16) T ∧ Below w.heap.size w wr) (fun vi wr => TL - (intOf vi).toNat)
  case atStart => exact ⟨0, T0, by omega, rfl, hlT, hTS, hOt, hB12⟩
  case round =>
    clear hOt hB12 hlT hTS
    obtain ⟨j, T, hj, rfl, hlT, hTS', hOt, hB⟩ := hrel
    have HTS := Lib.hid hTS'
    clear hTS'
    by_cases hlt : j < TL
    · have L1 : (j : Int) < (TL : Int) := by omega
      have L2 : IntKind.i64.wrap ((j : Int) + 1) = ((j + 1 : Nat) : Int) := by rw [IntWalk.i64_in _ (by omega)]; omega
      by_cases h3 : j < len2
      · have L3 : (j : Int) < (len2 : Int) := by omega
        have hBw0 := HB0.out.trans (hB.mono HB0.out.size)
        obtain ⟨x, z, rfl, c0, hz0, hz1⟩ := HR2.out.at hBw0 j h3
        obtain ⟨zn, rfl⟩ := Int.eq_ofNat_of_zero_le hz0
        obtain ⟨DD, hDD⟩ : ∃ DD, DD = TL - j := ⟨_, rfl⟩
        obtain ⟨RR, hRR⟩ : ∃ RR, RR = zn % DD := ⟨_, rfl⟩
        obtain ⟨J, hJ⟩ : ∃ J, J = j + RR := ⟨_, rfl⟩
        have hRD : RR < DD := by rw [hRR]; exact Nat.mod_lt _ (by omega)
        have M1 : IntKind.i64.wrap ((TL : Int) - (j : Int)) = (DD : Int) := by rw [IntWalk.i64_in _ (by omega)]; omega
        have M2 : ¬ ((DD : Int) = 0) := by omega
        have M3 : (zn : Int) % (DD : Int) = (RR : Int) := by rw [hRR]; omega
        have M4 : IntKind.i64.wrap ((j : Int) + (RR : Int)) = (J : Int) := by rw [IntWalk.i64_in _ (by omega)]; omega
        have M5 : IntKind.i64.wrap (zn : Int) = (zn : Int) := by rw [IntWalk.i64_in _ (by omega)]
        have hJK : J < TL := by omega
        have M6 : (J : Int) < (TL : Int) := by omega
        clear hJ hRR hDD hRD hBw0
        obtain ⟨g, c', e'⟩ := own_succ (k := TL - 1) (by
          have := hOt
          unfold Own at this
          rw [hlT, show TL = TL - 1 + 1 by omega] at this
          exact this)
        simp only [Value.slice.injEq] at e'
        obtain ⟨rfl, -, rfl⟩ := e'
        obtain ⟨zi0, zi1, yi0, yi1⟩ := hOt.two j (by omega)
        obtain ⟨zj0, zj1, yj0, yj1⟩ := hOt.two J (by omega)
        have hsw := hOt.swap j J (by omega) (by omega)
        have hge : w.heap.size ≤ g := own_ge hOt g rfl
        obtain ⟨T2, hT2⟩ : ∃ T2, T2 = sw T j J := ⟨_, rfl⟩
        rw [← hT2] at hsw
        have hT2l : T2.length = TL := by rw [hT2, sw_length]; exact hlT
        have HT2 := Lib.hid (fun p => by rw [hT2, sw_mem (by omega) (by omega)]; exact HTS.out p : ∀ p, p ∈ T2 ↔ p ∈ S)
        have HOT := Lib.hid hsw
        have HBB := Lib.hid ((((hB.setCell (p := ⟨g, j * 2, none⟩) hge (.string (pat T J).1)).setCell (p := ⟨g, j * 2 + 1, none⟩) hge (.string (pat T J).2)).setCell (p := ⟨g, J * 2, none⟩) hge (.string (pat T j).1)).setCell (p := ⟨g, J * 2 + 1, none⟩) hge (.string (pat T j).2))
        have hjj : (j = J → pat T J = pat T j) := fun e => by rw [e]
        clear hsw hOt hB hT2 HR2
        generalize pat T J = kj at *
        generalize pat T j = ki at *
        by_cases hij : j = J
        · have ekk := hjj hij
          subst hij
          subst ekk
          clear hjj
          go_upto_region 23 with (fail)
          refine wp_region_late (S := fun w' => w'.cell? ⟨g, j * 2, none⟩ = some (.string kj.1) ∧ w'.cell? ⟨g, j * 2 + 1, none⟩ = some (.string kj.2) ∧ w'.cell? ⟨g, j * 2, none⟩ = some (.string kj.1) ∧ w'.cell? ⟨g, j * 2 + 1, none⟩ = some (.string kj.2)) (st := 13) (by kernel_rfl) ?_
          have hS : (fun w' : World => w'.cell? ⟨g, j * 2, none⟩ = some (.string kj.1) ∧ w'.cell? ⟨g, j * 2 + 1, none⟩ = some (.string kj.2) ∧ w'.cell? ⟨g, j * 2, none⟩ = some (.string kj.1) ∧ w'.cell? ⟨g, j * 2 + 1, none⟩ = some (.string kj.2)) wr.drew := ⟨zj0, zj1, zi0, zi1⟩
          refine wpAnyL_take0 (i := 0) (oi := { dst := some 89, op := Go.Op.move (Go.Operand.tmp 16), type := 63, pos := "law.go:216", after := #[], guard := none }) (v := .slice (some ⟨g, 0, none⟩) TL c16) rfl (by kernel_rfl) (by kernel_rfl) (by kernel_rfl) (by kernel_rfl) (fun _ _ _ h => h) hS (Or.inl ⟨by rfl, fun w hSw => ?_⟩) ?_
          · go_split_ands
            go_simp
          try simp only [Act.put, List.setIfInBounds_toArray, List.set_cons_zero, List.set_cons_succ]
          refine wpAnyL_take0 (i := 1) (oi := { dst := some 90, op := Go.Op.move (Go.Operand.tmp 17), type := 3, pos := "law.go:216", after := #[], guard := none }) (v := .int .i64 j) rfl (by kernel_rfl) (by kernel_rfl) (by kernel_rfl) (by kernel_rfl) (fun _ _ _ h => h) hS (Or.inl ⟨by rfl, fun w hSw => ?_⟩) ?_
          · go_split_ands
            go_simp
          try simp only [Act.put, List.setIfInBounds_toArray, List.set_cons_zero, List.set_cons_succ]
          refine wpAnyL_take0 (i := 2) (oi := { dst := some 91, op := Go.Op.move (Go.Operand.tmp 16), type := 63, pos := "law.go:216", after := #[{ on := 13, ground := Go.Ground.gcOnly Go.Departure.lateStores }], guard := none }) (v := .slice (some ⟨g, 0, none⟩) TL c16) rfl (by kernel_rfl) (by kernel_rfl) (by kernel_rfl) (by kernel_rfl) (fun _ _ _ h => h) hS (Or.inl ⟨by rfl, fun w hSw => ?_⟩) ?_
          · go_split_ands
            go_simp
          try simp only [Act.put, List.setIfInBounds_toArray, List.set_cons_zero, List.set_cons_succ]
          refine wpAnyL_take0 (i := 3) (oi := { dst := some 92, op := Go.Op.move (Go.Operand.tmp 18), type := 3, pos := "law.go:216", after := #[{ on := 13, ground := Go.Ground.gcOnly Go.Departure.lateStores }], guard := none }) (v := .int .i64 j) rfl (by kernel_rfl) (by kernel_rfl) (by kernel_rfl) (by kernel_rfl) (fun _ _ _ h => h) hS (Or.inl ⟨by rfl, fun w hSw => ?_⟩) ?_
          · go_split_ands
            go_simp
          try simp only [Act.put, List.setIfInBounds_toArray, List.set_cons_zero, List.set_cons_succ]
          refine wpAnyL_take0 (i := 4) (oi := { dst := some 93, op := Go.Op.move (Go.Operand.tmp 16), type := 63, pos := "law.go:216", after := #[], guard := none }) (v := .slice (some ⟨g, 0, none⟩) TL c16) rfl (by kernel_rfl) (by kernel_rfl) (by kernel_rfl) (by kernel_rfl) (fun _ _ _ h => h) hS (Or.inl ⟨by rfl, fun w hSw => ?_⟩) ?_
          · go_split_ands
            go_simp
          try simp only [Act.put, List.setIfInBounds_toArray, List.set_cons_zero, List.set_cons_succ]
          refine wpAnyL_take0 (i := 5) (oi := { dst := some 94, op := Go.Op.move (Go.Operand.tmp 18), type := 3, pos := "law.go:216", after := #[], guard := none }) (v := .int .i64 j) rfl (by kernel_rfl) (by kernel_rfl) (by kernel_rfl) (by kernel_rfl) (fun _ _ _ h => h) hS (Or.inl ⟨by rfl, fun w hSw => ?_⟩) ?_
          · go_split_ands
            go_simp
          try simp only [Act.put, List.setIfInBounds_toArray, List.set_cons_zero, List.set_cons_succ]
          refine wpAnyL_take0 (i := 6) (oi := { dst := some 95, op := Go.Op.indexAddr 63 (Go.Operand.tmp 93) (Go.Operand.tmp 94), type := 0, pos := "law.go:216", after := #[{ on := 4, ground := Go.Ground.data }, { on := 5, ground := Go.Ground.data }], guard := none }) (v := .pointer (some ⟨g, j * 2, none⟩)) rfl (by kernel_rfl) (by kernel_rfl) (by kernel_rfl) (by kernel_rfl) (fun _ _ _ h => h) hS (Or.inl ⟨by rfl, fun w hSw => ?_⟩) ?_
          · go_split_ands
            go_simp
          try simp only [Act.put, List.setIfInBounds_toArray, List.set_cons_zero, List.set_cons_succ]
          refine wpAnyL_take (i := 7) (oi := { dst := some 96, op := Go.Op.load 34 (Go.Operand.tmp 95), type := 34, pos := "law.go:216", after := #[{ on := 6, ground := Go.Ground.data }], guard := none }) (v := .agg #[.string kj.1, .string kj.2]) rfl (by kernel_rfl) (by kernel_rfl) (by kernel_rfl) (by kernel_rfl) (fun _ _ _ h => h) hS (Or.inl ⟨by rfl, fun w hSw => ?_⟩) ?_
          · go_split_ands
            go_simp
          try simp only [Act.put, List.setIfInBounds_toArray, List.set_cons_zero, List.set_cons_succ]
          refine wpAnyL_take0 (i := 8) (oi := { dst := some 97, op := Go.Op.move (Go.Operand.tmp 16), type := 63, pos := "law.go:216", after := #[], guard := none }) (v := .slice (some ⟨g, 0, none⟩) TL c16) rfl (by kernel_rfl) (by kernel_rfl) (by kernel_rfl) (by kernel_rfl) (fun _ _ _ h => h) hS (Or.inl ⟨by rfl, fun w hSw => ?_⟩) ?_
          · go_split_ands
            go_simp
          try simp only [Act.put, List.setIfInBounds_toArray, List.set_cons_zero, List.set_cons_succ]
          refine wpAnyL_take0 (i := 9) (oi := { dst := some 98, op := Go.Op.move (Go.Operand.tmp 17), type := 3, pos := "law.go:216", after := #[], guard := none }) (v := .int .i64 j) rfl (by kernel_rfl) (by kernel_rfl) (by kernel_rfl) (by kernel_rfl) (fun _ _ _ h => h) hS (Or.inl ⟨by rfl, fun w hSw => ?_⟩) ?_
          · go_split_ands
            go_simp
          try simp only [Act.put, List.setIfInBounds_toArray, List.set_cons_zero, List.set_cons_succ]
          refine wpAnyL_take0 (i := 10) (oi := { dst := some 99, op := Go.Op.indexAddr 63 (Go.Operand.tmp 97) (Go.Operand.tmp 98), type := 0, pos := "law.go:216", after := #[{ on := 8, ground := Go.Ground.data }, { on := 9, ground := Go.Ground.data }], guard := none }) (v := .pointer (some ⟨g, j * 2, none⟩)) rfl (by kernel_rfl) (by kernel_rfl) (by kernel_rfl) (by kernel_rfl) (fun _ _ _ h => h) hS (Or.inl ⟨by rfl, fun w hSw => ?_⟩) ?_
          · go_split_ands
            go_simp
          try simp only [Act.put, List.setIfInBounds_toArray, List.set_cons_zero, List.set_cons_succ]
          refine wpAnyL_take (i := 11) (oi := { dst := some 100, op := Go.Op.load 34 (Go.Operand.tmp 99), type := 34, pos := "law.go:216", after := #[{ on := 10, ground := Go.Ground.data }], guard := none }) (v := .agg #[.string kj.1, .string kj.2]) rfl (by kernel_rfl) (by kernel_rfl) (by kernel_rfl) (by kernel_rfl) (fun _ _ _ h => h) hS (Or.inl ⟨by rfl, fun w hSw => ?_⟩) ?_
          · go_split_ands
            go_simp
          try simp only [Act.put, List.setIfInBounds_toArray, List.set_cons_zero, List.set_cons_succ]
          refine wpAnyL_ready (rs := [12]) (by kernel_rfl) (by simp) ?_
          refine AllReadyL.cons (o := { dst := some 101, op := Go.Op.indexAddr 63 (Go.Operand.tmp 89) (Go.Operand.tmp 90), type := 0, pos := "law.go:216", after := #[{ on := 0, ground := Go.Ground.data }, { on := 1, ground := Go.Ground.data }, { on := 0, ground := Go.Ground.phase }, { on := 1, ground := Go.Ground.phase }, { on := 2, ground := Go.Ground.textOnly Go.Departure.lateStores }, { on := 3, ground := Go.Ground.textOnly Go.Departure.lateStores }, { on := 4, ground := Go.Ground.phase }, { on := 5, ground := Go.Ground.phase }, { on := 6, ground := Go.Ground.phase }, { on := 7, ground := Go.Ground.phase }, { on := 8, ground := Go.Ground.textOnly Go.Departure.lateStores }, { on := 9, ground := Go.Ground.textOnly Go.Departure.lateStores }, { on := 10, ground := Go.Ground.textOnly Go.Departure.lateStoresUnsure }, { on := 11, ground := Go.Ground.phase }], guard := none }) rfl (fun K hK => ?_) AllReadyL.nil
          go_simp
          refine hK.out _ _ (fun _ => hS) ?_
          clear hK K
          try simp only [Act.put, List.setIfInBounds_toArray, List.set_cons_zero, List.set_cons_succ]
          refine wpAnyL_ready (rs := [13]) (by kernel_rfl) (by simp) ?_
          refine AllReadyL.cons (o := { dst := none, op := Go.Op.store 34 (Go.Operand.tmp 101) (Go.Operand.tmp 96), type := 0, pos := "law.go:216", after := #[{ on := 12, ground := Go.Ground.data }, { on := 7, ground := Go.Ground.data }, { on := 0, ground := Go.Ground.phase }, { on := 1, ground := Go.Ground.phase }, { on := 2, ground := Go.Ground.textOnly Go.Departure.lateStores }, { on := 3, ground := Go.Ground.textOnly Go.Departure.lateStores }, { on := 4, ground := Go.Ground.phase }, { on := 5, ground := Go.Ground.phase }, { on := 6, ground := Go.Ground.phase }, { on := 7, ground := Go.Ground.phase }, { on := 8, ground := Go.Ground.textOnly Go.Departure.lateStores }, { on := 9, ground := Go.Ground.textOnly Go.Departure.lateStores }, { on := 10, ground := Go.Ground.textOnly Go.Departure.lateStoresUnsure }, { on := 11, ground := Go.Ground.phase }], guard := none }) rfl (fun K hK => ?_) AllReadyL.nil
          go_simp
          refine hK.out _ _ (late_no (by kernel_rfl)) ?_
          clear hK K
          try simp only [Act.put, List.setIfInBounds_toArray, List.set_cons_zero, List.set_cons_succ]
          refine wpAnyL_ready (rs := [14]) (by kernel_rfl) (by simp) ?_
          refine AllReadyL.cons (o := { dst := some 102, op := Go.Op.indexAddr 63 (Go.Operand.tmp 91) (Go.Operand.tmp 92), type := 0, pos := "law.go:216", after := #[{ on := 2, ground := Go.Ground.data }, { on := 3, ground := Go.Ground.data }, { on := 0, ground := Go.Ground.phase }, { on := 1, ground := Go.Ground.phase }, { on := 2, ground := Go.Ground.phase }, { on := 3, ground := Go.Ground.phase }, { on := 4, ground := Go.Ground.phase }, { on := 5, ground := Go.Ground.phase }, { on := 6, ground := Go.Ground.phase }, { on := 7, ground := Go.Ground.phase }, { on := 8, ground := Go.Ground.phase }, { on := 9, ground := Go.Ground.phase }, { on := 10, ground := Go.Ground.phase }, { on := 11, ground := Go.Ground.phase }, { on := 12, ground := Go.Ground.phase }, { on := 13, ground := Go.Ground.phase }], guard := none }) rfl (fun K hK => ?_) AllReadyL.nil
          go_simp
          refine hK.out _ _ (late_no (by kernel_rfl)) ?_
          clear hK K
          try simp only [Act.put, List.setIfInBounds_toArray, List.set_cons_zero, List.set_cons_succ]
          refine wpAnyL_ready (rs := [15]) (by kernel_rfl) (by simp) ?_
          refine AllReadyL.cons (o := { dst := none, op := Go.Op.store 34 (Go.Operand.tmp 102) (Go.Operand.tmp 100), type := 0, pos := "law.go:216", after := #[{ on := 14, ground := Go.Ground.data }, { on := 11, ground := Go.Ground.data }, { on := 13, ground := Go.Ground.chain }, { on := 0, ground := Go.Ground.phase }, { on := 1, ground := Go.Ground.phase }, { on := 2, ground := Go.Ground.phase }, { on := 3, ground := Go.Ground.phase }, { on := 4, ground := Go.Ground.phase }, { on := 5, ground := Go.Ground.phase }, { on := 6, ground := Go.Ground.phase }, { on := 7, ground := Go.Ground.phase }, { on := 8, ground := Go.Ground.phase }, { on := 9, ground := Go.Ground.phase }, { on := 10, ground := Go.Ground.phase }, { on := 11, ground := Go.Ground.phase }, { on := 12, ground := Go.Ground.phase }, { on := 13, ground := Go.Ground.phase }], guard := none }) rfl (fun K hK => ?_) AllReadyL.nil
          go_simp
          refine hK.out _ _ (late_no (by kernel_rfl)) ?_
          clear hK K
          try simp only [Act.put, List.setIfInBounds_toArray, List.set_cons_zero, List.set_cons_succ]
          refine wpAnyL_done (by kernel_rfl) ?_ _

          have hdr := (Below.refl ((((wr.setCell ⟨g, j * 2, none⟩ (.string kj.1)).setCell ⟨g, j * 2 + 1, none⟩ (.string kj.2)).setCell ⟨g, j * 2, none⟩ (.string kj.1)).setCell ⟨g, j * 2 + 1, none⟩ (.string kj.2)).heap.size ((((wr.setCell ⟨g, j * 2, none⟩ (.string kj.1)).setCell ⟨g, j * 2 + 1, none⟩ (.string kj.2)).setCell ⟨g, j * 2, none⟩ (.string kj.1)).setCell ⟨g, j * 2 + 1, none⟩ (.string kj.2))).drew
          have fO := HOT.out.below hdr
          have fB := HBB.out.drew
          clear hdr HOT HBB
          generalize ((((wr.setCell ⟨g, j * 2, none⟩ (.string kj.1)).setCell ⟨g, j * 2 + 1, none⟩ (.string kj.2)).setCell ⟨g, j * 2, none⟩ (.string kj.1)).setCell ⟨g, j * 2 + 1, none⟩ (.string kj.2)).drew = W9 at *
          go_wp2_with fail
          exact ⟨⟨j + 1, T2, by omega, by go_num, hT2l, HT2.out, fO, fB⟩, by simp [intOf]; omega⟩

        · have q1 : ¬ (j * 2 = J * 2) := by omega
          have q2 : ¬ (J * 2 = j * 2) := by omega
          have q3 : ¬ (j * 2 + 1 = J * 2) := by omega
          have q4 : ¬ (J * 2 = j * 2 + 1) := by omega
          have q5 : ¬ (j * 2 = J * 2 + 1) := by omega
          have q6 : ¬ (J * 2 + 1 = j * 2) := by omega
          have q7 : ¬ (j * 2 + 1 = J * 2 + 1) := by omega
          have q8 : ¬ (J * 2 + 1 = j * 2 + 1) := by omega
          have q9 : ¬ (J = j) := fun e => hij e.symm
          clear hjj
          go_upto_region 23 with (fail)
          refine wp_region_late (S := fun w' => w'.cell? ⟨g, J * 2, none⟩ = some (.string kj.1) ∧ w'.cell? ⟨g, J * 2 + 1, none⟩ = some (.string kj.2) ∧ w'.cell? ⟨g, j * 2, none⟩ = some (.string ki.1) ∧ w'.cell? ⟨g, j * 2 + 1, none⟩ = some (.string ki.2)) (st := 13) (by kernel_rfl) ?_
          have hS : (fun w' : World => w'.cell? ⟨g, J * 2, none⟩ = some (.string kj.1) ∧ w'.cell? ⟨g, J * 2 + 1, none⟩ = some (.string kj.2) ∧ w'.cell? ⟨g, j * 2, none⟩ = some (.string ki.1) ∧ w'.cell? ⟨g, j * 2 + 1, none⟩ = some (.string ki.2)) wr.drew := ⟨zj0, zj1, zi0, zi1⟩
          refine wpAnyL_take0 (i := 0) (oi := { dst := some 89, op := Go.Op.move (Go.Operand.tmp 16), type := 63, pos := "law.go:216", after := #[], guard := none }) (v := .slice (some ⟨g, 0, none⟩) TL c16) rfl (by kernel_rfl) (by kernel_rfl) (by kernel_rfl) (by kernel_rfl) (fun _ _ _ h => h) hS (Or.inl ⟨by rfl, fun w hSw => ?_⟩) ?_
          · go_split_ands
            go_simp
          try simp only [Act.put, List.setIfInBounds_toArray, List.set_cons_zero, List.set_cons_succ]
          refine wpAnyL_take0 (i := 1) (oi := { dst := some 90, op := Go.Op.move (Go.Operand.tmp 17), type := 3, pos := "law.go:216", after := #[], guard := none }) (v := .int .i64 j) rfl (by kernel_rfl) (by kernel_rfl) (by kernel_rfl) (by kernel_rfl) (fun _ _ _ h => h) hS (Or.inl ⟨by rfl, fun w hSw => ?_⟩) ?_
          · go_split_ands
            go_simp
          try simp only [Act.put, List.setIfInBounds_toArray, List.set_cons_zero, List.set_cons_succ]
          refine wpAnyL_take0 (i := 2) (oi := { dst := some 91, op := Go.Op.move (Go.Operand.tmp 16), type := 63, pos := "law.go:216", after := #[{ on := 13, ground := Go.Ground.gcOnly Go.Departure.lateStores }], guard := none }) (v := .slice (some ⟨g, 0, none⟩) TL c16) rfl (by kernel_rfl) (by kernel_rfl) (by kernel_rfl) (by kernel_rfl) (fun _ _ _ h => h) hS (Or.inl ⟨by rfl, fun w hSw => ?_⟩) ?_
          · go_split_ands
            go_simp
          try simp only [Act.put, List.setIfInBounds_toArray, List.set_cons_zero, List.set_cons_succ]
          refine wpAnyL_take0 (i := 3) (oi := { dst := some 92, op := Go.Op.move (Go.Operand.tmp 18), type := 3, pos := "law.go:216", after := #[{ on := 13, ground := Go.Ground.gcOnly Go.Departure.lateStores }], guard := none }) (v := .int .i64 J) rfl (by kernel_rfl) (by kernel_rfl) (by kernel_rfl) (by kernel_rfl) (fun _ _ _ h => h) hS (Or.inl ⟨by rfl, fun w hSw => ?_⟩) ?_
          · go_split_ands
            go_simp
          try simp only [Act.put, List.setIfInBounds_toArray, List.set_cons_zero, List.set_cons_succ]
          refine wpAnyL_take0 (i := 4) (oi := { dst := some 93, op := Go.Op.move (Go.Operand.tmp 16), type := 63, pos := "law.go:216", after := #[], guard := none }) (v := .slice (some ⟨g, 0, none⟩) TL c16) rfl (by kernel_rfl) (by kernel_rfl) (by kernel_rfl) (by kernel_rfl) (fun _ _ _ h => h) hS (Or.inl ⟨by rfl, fun w hSw => ?_⟩) ?_
          · go_split_ands
            go_simp
          try simp only [Act.put, List.setIfInBounds_toArray, List.set_cons_zero, List.set_cons_succ]
          refine wpAnyL_take0 (i := 5) (oi := { dst := some 94, op := Go.Op.move (Go.Operand.tmp 18), type := 3, pos := "law.go:216", after := #[], guard := none }) (v := .int .i64 J) rfl (by kernel_rfl) (by kernel_rfl) (by kernel_rfl) (by kernel_rfl) (fun _ _ _ h => h) hS (Or.inl ⟨by rfl, fun w hSw => ?_⟩) ?_
          · go_split_ands
            go_simp
          try simp only [Act.put, List.setIfInBounds_toArray, List.set_cons_zero, List.set_cons_succ]
          refine wpAnyL_take0 (i := 6) (oi := { dst := some 95, op := Go.Op.indexAddr 63 (Go.Operand.tmp 93) (Go.Operand.tmp 94), type := 0, pos := "law.go:216", after := #[{ on := 4, ground := Go.Ground.data }, { on := 5, ground := Go.Ground.data }], guard := none }) (v := .pointer (some ⟨g, J * 2, none⟩)) rfl (by kernel_rfl) (by kernel_rfl) (by kernel_rfl) (by kernel_rfl) (fun _ _ _ h => h) hS (Or.inl ⟨by rfl, fun w hSw => ?_⟩) ?_
          · go_split_ands
            go_simp
          try simp only [Act.put, List.setIfInBounds_toArray, List.set_cons_zero, List.set_cons_succ]
          refine wpAnyL_take (i := 7) (oi := { dst := some 96, op := Go.Op.load 34 (Go.Operand.tmp 95), type := 34, pos := "law.go:216", after := #[{ on := 6, ground := Go.Ground.data }], guard := none }) (v := .agg #[.string kj.1, .string kj.2]) rfl (by kernel_rfl) (by kernel_rfl) (by kernel_rfl) (by kernel_rfl) (fun _ _ _ h => h) hS (Or.inl ⟨by rfl, fun w hSw => ?_⟩) ?_
          · go_split_ands
            go_simp
          try simp only [Act.put, List.setIfInBounds_toArray, List.set_cons_zero, List.set_cons_succ]
          refine wpAnyL_take0 (i := 8) (oi := { dst := some 97, op := Go.Op.move (Go.Operand.tmp 16), type := 63, pos := "law.go:216", after := #[], guard := none }) (v := .slice (some ⟨g, 0, none⟩) TL c16) rfl (by kernel_rfl) (by kernel_rfl) (by kernel_rfl) (by kernel_rfl) (fun _ _ _ h => h) hS (Or.inl ⟨by rfl, fun w hSw => ?_⟩) ?_
          · go_split_ands
            go_simp
          try simp only [Act.put, List.setIfInBounds_toArray, List.set_cons_zero, List.set_cons_succ]
          refine wpAnyL_take0 (i := 9) (oi := { dst := some 98, op := Go.Op.move (Go.Operand.tmp 17), type := 3, pos := "law.go:216", after := #[], guard := none }) (v := .int .i64 j) rfl (by kernel_rfl) (by kernel_rfl) (by kernel_rfl) (by kernel_rfl) (fun _ _ _ h => h) hS (Or.inl ⟨by rfl, fun w hSw => ?_⟩) ?_
          · go_split_ands
            go_simp
          try simp only [Act.put, List.setIfInBounds_toArray, List.set_cons_zero, List.set_cons_succ]
          refine wpAnyL_take0 (i := 10) (oi := { dst := some 99, op := Go.Op.indexAddr 63 (Go.Operand.tmp 97) (Go.Operand.tmp 98), type := 0, pos := "law.go:216", after := #[{ on := 8, ground := Go.Ground.data }, { on := 9, ground := Go.Ground.data }], guard := none }) (v := .pointer (some ⟨g, j * 2, none⟩)) rfl (by kernel_rfl) (by kernel_rfl) (by kernel_rfl) (by kernel_rfl) (fun _ _ _ h => h) hS (Or.inl ⟨by rfl, fun w hSw => ?_⟩) ?_
          · go_split_ands
            go_simp
          try simp only [Act.put, List.setIfInBounds_toArray, List.set_cons_zero, List.set_cons_succ]
          refine wpAnyL_take (i := 11) (oi := { dst := some 100, op := Go.Op.load 34 (Go.Operand.tmp 99), type := 34, pos := "law.go:216", after := #[{ on := 10, ground := Go.Ground.data }], guard := none }) (v := .agg #[.string ki.1, .string ki.2]) rfl (by kernel_rfl) (by kernel_rfl) (by kernel_rfl) (by kernel_rfl) (fun _ _ _ h => h) hS (Or.inl ⟨by rfl, fun w hSw => ?_⟩) ?_
          · go_split_ands
            go_simp
          try simp only [Act.put, List.setIfInBounds_toArray, List.set_cons_zero, List.set_cons_succ]
          refine wpAnyL_ready (rs := [12]) (by kernel_rfl) (by simp) ?_
          refine AllReadyL.cons (o := { dst := some 101, op := Go.Op.indexAddr 63 (Go.Operand.tmp 89) (Go.Operand.tmp 90), type := 0, pos := "law.go:216", after := #[{ on := 0, ground := Go.Ground.data }, { on := 1, ground := Go.Ground.data }, { on := 0, ground := Go.Ground.phase }, { on := 1, ground := Go.Ground.phase }, { on := 2, ground := Go.Ground.textOnly Go.Departure.lateStores }, { on := 3, ground := Go.Ground.textOnly Go.Departure.lateStores }, { on := 4, ground := Go.Ground.phase }, { on := 5, ground := Go.Ground.phase }, { on := 6, ground := Go.Ground.phase }, { on := 7, ground := Go.Ground.phase }, { on := 8, ground := Go.Ground.textOnly Go.Departure.lateStores }, { on := 9, ground := Go.Ground.textOnly Go.Departure.lateStores }, { on := 10, ground := Go.Ground.textOnly Go.Departure.lateStoresUnsure }, { on := 11, ground := Go.Ground.phase }], guard := none }) rfl (fun K hK => ?_) AllReadyL.nil
          go_simp
          refine hK.out _ _ (fun _ => hS) ?_
          clear hK K
          try simp only [Act.put, List.setIfInBounds_toArray, List.set_cons_zero, List.set_cons_succ]
          refine wpAnyL_ready (rs := [13]) (by kernel_rfl) (by simp) ?_
          refine AllReadyL.cons (o := { dst := none, op := Go.Op.store 34 (Go.Operand.tmp 101) (Go.Operand.tmp 96), type := 0, pos := "law.go:216", after := #[{ on := 12, ground := Go.Ground.data }, { on := 7, ground := Go.Ground.data }, { on := 0, ground := Go.Ground.phase }, { on := 1, ground := Go.Ground.phase }, { on := 2, ground := Go.Ground.textOnly Go.Departure.lateStores }, { on := 3, ground := Go.Ground.textOnly Go.Departure.lateStores }, { on := 4, ground := Go.Ground.phase }, { on := 5, ground := Go.Ground.phase }, { on := 6, ground := Go.Ground.phase }, { on := 7, ground := Go.Ground.phase }, { on := 8, ground := Go.Ground.textOnly Go.Departure.lateStores }, { on := 9, ground := Go.Ground.textOnly Go.Departure.lateStores }, { on := 10, ground := Go.Ground.textOnly Go.Departure.lateStoresUnsure }, { on := 11, ground := Go.Ground.phase }], guard := none }) rfl (fun K hK => ?_) AllReadyL.nil
          go_simp
          refine hK.out _ _ (late_no (by kernel_rfl)) ?_
          clear hK K
          try simp only [Act.put, List.setIfInBounds_toArray, List.set_cons_zero, List.set_cons_succ]
          refine wpAnyL_ready (rs := [14]) (by kernel_rfl) (by simp) ?_
          refine AllReadyL.cons (o := { dst := some 102, op := Go.Op.indexAddr 63 (Go.Operand.tmp 91) (Go.Operand.tmp 92), type := 0, pos := "law.go:216", after := #[{ on := 2, ground := Go.Ground.data }, { on := 3, ground := Go.Ground.data }, { on := 0, ground := Go.Ground.phase }, { on := 1, ground := Go.Ground.phase }, { on := 2, ground := Go.Ground.phase }, { on := 3, ground := Go.Ground.phase }, { on := 4, ground := Go.Ground.phase }, { on := 5, ground := Go.Ground.phase }, { on := 6, ground := Go.Ground.phase }, { on := 7, ground := Go.Ground.phase }, { on := 8, ground := Go.Ground.phase }, { on := 9, ground := Go.Ground.phase }, { on := 10, ground := Go.Ground.phase }, { on := 11, ground := Go.Ground.phase }, { on := 12, ground := Go.Ground.phase }, { on := 13, ground := Go.Ground.phase }], guard := none }) rfl (fun K hK => ?_) AllReadyL.nil
          go_simp
          refine hK.out _ _ (late_no (by kernel_rfl)) ?_
          clear hK K
          try simp only [Act.put, List.setIfInBounds_toArray, List.set_cons_zero, List.set_cons_succ]
          refine wpAnyL_ready (rs := [15]) (by kernel_rfl) (by simp) ?_
          refine AllReadyL.cons (o := { dst := none, op := Go.Op.store 34 (Go.Operand.tmp 102) (Go.Operand.tmp 100), type := 0, pos := "law.go:216", after := #[{ on := 14, ground := Go.Ground.data }, { on := 11, ground := Go.Ground.data }, { on := 13, ground := Go.Ground.chain }, { on := 0, ground := Go.Ground.phase }, { on := 1, ground := Go.Ground.phase }, { on := 2, ground := Go.Ground.phase }, { on := 3, ground := Go.Ground.phase }, { on := 4, ground := Go.Ground.phase }, { on := 5, ground := Go.Ground.phase }, { on := 6, ground := Go.Ground.phase }, { on := 7, ground := Go.Ground.phase }, { on := 8, ground := Go.Ground.phase }, { on := 9, ground := Go.Ground.phase }, { on := 10, ground := Go.Ground.phase }, { on := 11, ground := Go.Ground.phase }, { on := 12, ground := Go.Ground.phase }, { on := 13, ground := Go.Ground.phase }], guard := none }) rfl (fun K hK => ?_) AllReadyL.nil
          go_simp
          refine hK.out _ _ (late_no (by kernel_rfl)) ?_
          clear hK K
          try simp only [Act.put, List.setIfInBounds_toArray, List.set_cons_zero, List.set_cons_succ]
          refine wpAnyL_done (by kernel_rfl) ?_ _

          have hdr := (Below.refl ((((wr.setCell ⟨g, j * 2, none⟩ (.string kj.1)).setCell ⟨g, j * 2 + 1, none⟩ (.string kj.2)).setCell ⟨g, J * 2, none⟩ (.string ki.1)).setCell ⟨g, J * 2 + 1, none⟩ (.string ki.2)).heap.size ((((wr.setCell ⟨g, j * 2, none⟩ (.string kj.1)).setCell ⟨g, j * 2 + 1, none⟩ (.string kj.2)).setCell ⟨g, J * 2, none⟩ (.string ki.1)).setCell ⟨g, J * 2 + 1, none⟩ (.string ki.2))).drew
          have fO := HOT.out.below hdr
          have fB := HBB.out.drew
          clear hdr HOT HBB
          generalize ((((wr.setCell ⟨g, j * 2, none⟩ (.string kj.1)).setCell ⟨g, j * 2 + 1, none⟩ (.string kj.2)).setCell ⟨g, J * 2, none⟩ (.string ki.1)).setCell ⟨g, J * 2 + 1, none⟩ (.string ki.2)).drew = W9 at *
          go_wp2_with fail
          exact ⟨⟨j + 1, T2, by omega, by go_num, hT2l, HT2.out, fO, fB⟩, by simp [intOf]; omega⟩

      · have L3 : ¬ ((j : Int) < (len2 : Int)) := by omega
        clear HR2
        go_wp2_with fail
        exact ⟨⟨j + 1, T, by omega, by go_num, hlT, HTS.out, hOt, hB⟩, by simp [intOf]; omega⟩
    · obtain rfl : j = TL := by omega
      have G : ¬ ((j : Int) < (j : Int)) := by omega
      have hBw := HB0.out.trans (hB.mono HB0.out.size)
      obtain ⟨A', c', e', hR⟩ := own_slice hOt
      simp only [Value.slice.injEq] at e'
      obtain ⟨rfl, e2, rfl⟩ := e'
      have HFF := Lib.hid (HF.out wr T A16 c16 hBw hB hR (hlT.trans HTL.out) HTS.out)
      rw [hlT] at HFF
      clear HF hOt HR2 hB hBw e2 hlT hR HTL
      repeat (first | exact HFF.out _ _ _ _ _ _ _ _ _ _ _ _ _ _ _ _ _ _ _ _ _ _ _ _ _ _ _ _ _ _ _ _ _ _ _ _ _ _ _ _ _ _ _ _ _ _ _ _ _ _ _ _ _ _ _ _ _ _ _ _ _ _ _ _ _ _ _ _ _ _ _ _ _ _ _ _ _ _ _ _ _ _ _ _ _ _ _ _ _ _ _ _ _ _ _ _ _ _ _ _ _ _ _ _ _ _ _ _ _ _ _ _ _ _ _ _ _ _ _ _ _ _ _ _ _ _ _ _ _ _ _ _ _ _ _ _ _ _ _ _ _ _ _ _ _ _ _ _ _ _ _ _ _ _ _ _ _ _ _ _ _ _ _ _ _ _ _ _ _ _ _ _ _ _ _ _ _ _ _ _ _ _ | go_step)
end Go.Proofs.YtfmbikmpobieoaaGreat.champOrders
/- ChampOrders, part by part. -/
namespace Go.Proofs.YtfmbikmpobieoaaGreat.champOrders
open Go.ChangeShapes Go.WideShapes Go.RowKit Go.Lib
set_option linter.unusedVariables false
set_option linter.unusedSimpArgs false
set_option maxRecDepth 100000
attribute [local irreducible] cnt
theorem rises_len : ∀ {R L : List Pr}, RisesL R → (∀ p ∈ R, p ∈ L) → R.length ≤ L.length
  | [], L, _, _ => by simp
  | x :: r, L, hr, h => by
    have h1 := (List.pairwise_cons.1 hr).1
    have h2 := (List.pairwise_cons.1 hr).2
    have hx := h x (by simp)
    have h3 := rises_len (L := L.filter fun p => decide (p.1 ≠ x.1)) h2 fun p hp => List.mem_filter.2 ⟨h p (by simp [hp]), by simpa using fun e => (h1 p hp).ne e.symm⟩
    have h4 : (L.filter fun p => decide (p.1 ≠ x.1)).length < L.length := List.length_filter_lt_length_iff_exists.2 ⟨x, hx, by simp⟩
    simp; omega
theorem norm_mem {xs R : List Pr} (h : IsNorm xs R) : ∀ p ∈ R, p ∈ xs := fun p hp => by
  have := (h.mem p).1 hp
  have h1 := List.mem_of_getLast? this
  unfold withKey at h1
  exact (List.mem_filter.1 h1).1
noncomputable def ord17 : Code := (Tryz.f6.body.bind (fromRegion 17)).getD .skip
set_option maxHeartbeats 8000000 in
theorem ord17_any (post : Ending → World → Prop) (k0 k1 m : Int) (w0 w : World) (h0 : U64 k0) (h1 : U64 k1) (N4 bn bm : Nat) (S : List Pr) (A9 : Option Addr) (c9 : Nat)
    (hB0 : Below w0.heap.size w0 w) (hTn : TP k0 k1 m w0.heap.size w bn S) (hR9 : Rd w A9 S) (hH : Blk w N4 26 #[.int .u64 k0, .int .u64 k1, .int .u64 m]) (hrS : RisesL S) (hlS : S.length ≤ 30) (hzS : ∀ x ∈ S, x.1.size ≤ 40) (hpost : ∀ w', Below w0.heap.size w0 w' → post (.returned (.bool true)) w') (a2 : Option Addr) (len2 cap2 : Nat) (zs : List Int) (hrow : IsRow .u8 w0 a2 len2 cap2 zs) (a3 : Option Addr) (len3 cap3 : Nat) (ps3 : List Pr) (hp3 : ArgP w0 a3 len3 cap3 ps3) (hTm : TP k0 k1 m w0.heap.size w bm []) (hc9 : A9 = none → c9 = 0 ∧ S = []) (x0 x1 x5 x6 x7 x8 x10 x11 x14 x15 x16 x17 x18 x19 x20 x21 x22 x23 x24 x25 x26 x27 x28 x29 x30 x31 x32 x33 x34 x35 x36 x37 x38 x39 x40 x41 x42 x43 x44 x45 x46 x47 x48 x49 x50 x51 x52 x53 x54 x55 x56 x57 x58 x59 x60 x61 x62 x63 x64 x65 x66 x67 x68 x69 x70 x71 x72 x73 x74 x75 x76 x77 x78 x79 x80 x81 x82 x83 x84 x85 x86 x87 x88 x89 x90 x91 x92 x93 x94 x95 x96 x97 x98 x99 x100 x101 x102 x103 x104 x105 x106 x107 x108 x109 x110 x111 x112 x113 x114 x115 x116 x117 x118 x119 x120 x121 x122 x123 x124 x125 x126 x127 x128 x129 x130 x131 x132 x133 x134 x135 x136 x137 x138 x139 x140 x141 x142 x143 x144 x145 x146 x147 x148 x149 x150 x151 x152 x153 x154 x155 x156 x157 x158 x159 x160 x161 x162 x163 x164 x165 x166 x167 x168 x169 x170 x171 x172 x173 x174 x175 x176 x177 x178 x179 x180 x181 x182 x183 x184 x185 x186 x187 : Value) :
    Code.wp Tryz.prog ord17 (bodyPost Tryz.prog Tryz.f6 post) ⟨#[x0, x1, .slice a2 len2 cap2, .slice a3 len3 cap3, .pointer (some ⟨N4, 0, none⟩), x5, x6, x7, x8, .slice A9 S.length c9, x10, x11, .pointer (some ⟨bn, 0, none⟩), .pointer (some ⟨bm, 0, none⟩), x14, x15, x16, x17, x18, x19, x20, x21, x22, x23, x24, x25, x26, x27, x28, x29, x30, x31, x32, x33, x34, x35, x36, x37, x38, x39, x40, x41, x42, x43, x44, x45, x46, x47, x48, x49, x50, x51, x52, x53, x54, x55, x56, x57, x58, x59, x60, x61, x62, x63, x64, x65, x66, x67, x68, x69, x70, x71, x72, x73, x74, x75, x76, x77, x78, x79, x80, x81, x82, x83, x84, x85, x86, x87, x88, x89, x90, x91, x92, x93, x94, x95, x96, x97, x98, x99, x100, x101, x102, x103, x104, x105, x106, x107, x108, x109, x110, x111, x112, x113, x114, x115, x116, x117, x118, x119, x120, x121, x122, x123, x124, x125, x126, x127, x128, x129, x130, x131, x132, x133, x134, x135, x136, x137, x138, x139, x140, x141, x142, x143, x144, x145, x146, x147, x148, x149, x150, x151, x152, x153, x154, x155, x156, x157, x158, x159, x160, x161, x162, x163, x164, x165, x166, x167, x168, x169, x170, x171, x172, x173, x174, x175, x176, x177, x178, x179, x180, x181, x182, x183, x184, x185, x186, x187], []⟩ w := by
  obtain ⟨i34, hi34, hy340, hy341, hy342⟩ := info_parts info33
  have HF := Lib.hid (fun w2 hB12 T0 TL A16 c16 hOt hlT hTL hTS => ord18_any post k0 k1 m w0 w h0 h1 N4 bn bm S A9 c9 hB0 hTn hR9 hH hrS hlS hzS hpost a2 len2 cap2 zs hrow a3 len3 cap3 ps3 hp3 hTm w2 hB12 T0 TL A16 c16 hOt hlT hTL hTS)
  have hBl := (Below.refl _ w).alloc (Nat.le_refl _) (.cells #[] 34)
  have hlit : (w.alloc (.cells #[] 34)).ownsRow w.heap.size 34 2 (.slice (some ⟨w.heap.size, 0, none⟩) 0 0) 0 [] := own_lit w
  have hsz := hBl.size
  have HBl := Lib.hid hBl
  have hR2 := hR9.below hBl
  clear hpost hp3 hTm hTn hH hrow hB0 hBl hR9
  simp only []
  conv => arg 2; whnf
  cases A9 with
  | none =>
    obtain ⟨rfl, rfl⟩ := hc9 rfl
    simp only [List.length_nil]
    clear hR2 hc9
    have HFF := Lib.hid (HF.out _ HBl.out [] 0 _ _ hlit rfl rfl (fun p => Iff.rfl))
    clear HF HBl
    repeat (first | (at_builtin; refine wpList_append_own_none rfl _ _ 63 rfl w.heap.size 34 i34 2 Tryz.underlying63 hi34 _ _ _ rfl hlit rfl ?_; repeat (first | exact HFF.out _ _ _ _ _ _ _ _ _ _ _ _ _ _ _ _ _ _ _ _ _ _ _ _ _ _ _ _ _ _ _ _ _ _ _ _ _ _ _ _ _ _ _ _ _ _ _ _ _ _ _ _ _ _ _ _ _ _ _ _ _ _ _ _ _ _ _ _ _ _ _ _ _ _ _ _ _ _ _ _ _ _ _ _ _ _ _ _ _ _ _ _ _ _ _ _ _ _ _ _ _ _ _ _ _ _ _ _ _ _ _ _ _ _ _ _ _ _ _ _ _ _ _ _ _ _ _ _ _ _ _ _ _ _ _ _ _ _ _ _ _ _ _ _ _ _ _ _ _ _ _ _ _ _ _ _ _ _ _ _ _ _ _ _ _ _ _ _ _ _ _ _ _ _ _ _ _ _ _ _ _ | go_step)) | go_step)
  | some a9 =>
    by_cases hS0 : S.length = 0
    · have hS : S = [] := List.length_eq_zero_iff.1 hS0
      subst hS
      simp only [List.length_nil]
      clear hR2 hc9
      repeat (first | (at_builtin; refine wpList_append_own_at _ rfl _ _ 63 rfl w.heap.size 34 i34 _ 2 32 Tryz.underlying63 hi34 hy340 hy341 hy342 zsz_pairs (by decide) _ _ _ rfl hlit a9 0 c9 [] rfl rfl (by simp) (by simp) (by unfold maxLen; omega) (by omega) hsz ?_; intro v' wa hown' hgrow hnil hat; obtain ⟨A', c', rfl⟩ := own_formN hown'; have hBg := HBl.out.grown hgrow hsz (own_ge hlit); have HFF := Lib.hid (HF.out _ hBg [] 0 A' c' hown' rfl rfl (fun p => Iff.rfl)); clear HF HBl hlit hown' hgrow hnil hat; repeat (first | exact HFF.out _ _ _ _ _ _ _ _ _ _ _ _ _ _ _ _ _ _ _ _ _ _ _ _ _ _ _ _ _ _ _ _ _ _ _ _ _ _ _ _ _ _ _ _ _ _ _ _ _ _ _ _ _ _ _ _ _ _ _ _ _ _ _ _ _ _ _ _ _ _ _ _ _ _ _ _ _ _ _ _ _ _ _ _ _ _ _ _ _ _ _ _ _ _ _ _ _ _ _ _ _ _ _ _ _ _ _ _ _ _ _ _ _ _ _ _ _ _ _ _ _ _ _ _ _ _ _ _ _ _ _ _ _ _ _ _ _ _ _ _ _ _ _ _ _ _ _ _ _ _ _ _ _ _ _ _ _ _ _ _ _ _ _ _ _ _ _ _ _ _ _ _ _ _ _ _ _ _ _ _ _ | go_step)) | go_step)
    · obtain ⟨g, off, e⟩ := hR2.starts (by omega)
      cases e
      have hcl := hR2.cells
      obtain ⟨SL, hSL⟩ : ∃ SL, SL = S.length := ⟨_, rfl⟩
      have hfl : (flat S).length = SL * 2 := by rw [flat_length, hSL]
      have hone : ∀ u ∈ flat S, u.oneCell' = true := fun u hu => by
        obtain ⟨p, _, hp⟩ := List.mem_flatMap.1 (show u ∈ S.flatMap fun p => [.string p.1, .string p.2] from hu)
        simp at hp
        rcases hp with rfl | rfl <;> rfl
      have hSL30 : SL ≤ 30 := by omega
      rw [← hSL]
      have HSL := Lib.hid hSL
      clear hSL hR2 hc9 hS0
      have HFS := Lib.hid (fun w2 hB12 A16 c16 hOt => by have h := HF.out w2 hB12 S SL A16 c16 hOt HSL.out.symm HSL.out (fun p => Iff.rfl); rw [← HSL.out] at h; exact h)
      clear HF
      repeat (first | (at_builtin; refine wpList_append_own_at _ rfl _ _ 63 rfl w.heap.size 34 i34 _ 2 32 Tryz.underlying63 hi34 hy340 hy341 hy342 zsz_pairs (by decide) _ _ _ rfl hlit ⟨g, off, none⟩ SL c9 (flat S) rfl hfl hcl hone (by unfold maxLen; omega) (by omega) hsz ?_) | go_step)
      intro v' wa hown' hgrow hnil hat
      rw [Nat.zero_add, List.nil_append] at hown'
      obtain ⟨A', c', rfl⟩ := own_formN hown'
      have hBg := HBl.out.grown hgrow hsz (own_ge hlit)
      have hOwn : Own w.heap.size wa (.slice A' SL c') S := by
        unfold Own
        rw [← HSL.out]
        exact hown'
      have HFF := Lib.hid (HFS.out _ hBg A' c' hOwn)
      clear HFS HBl hlit hown' hgrow hnil hat hOwn hcl hone hfl
      repeat (first | exact HFF.out _ _ _ _ _ _ _ _ _ _ _ _ _ _ _ _ _ _ _ _ _ _ _ _ _ _ _ _ _ _ _ _ _ _ _ _ _ _ _ _ _ _ _ _ _ _ _ _ _ _ _ _ _ _ _ _ _ _ _ _ _ _ _ _ _ _ _ _ _ _ _ _ _ _ _ _ _ _ _ _ _ _ _ _ _ _ _ _ _ _ _ _ _ _ _ _ _ _ _ _ _ _ _ _ _ _ _ _ _ _ _ _ _ _ _ _ _ _ _ _ _ _ _ _ _ _ _ _ _ _ _ _ _ _ _ _ _ _ _ _ _ _ _ _ _ _ _ _ _ _ _ _ _ _ _ _ _ _ _ _ _ _ _ _ _ _ _ _ _ _ _ _ _ _ _ _ _ _ _ _ _ | go_step)
end Go.Proofs.YtfmbikmpobieoaaGreat.champOrders
/- ChampOrders, part by part. -/
namespace Go.Proofs.YtfmbikmpobieoaaGreat.champOrders
open Go.ChangeShapes Go.WideShapes Go.RowKit Go.Lib
set_option linter.unusedVariables false
set_option linter.unusedSimpArgs false
set_option maxRecDepth 100000
attribute [local irreducible] cnt
noncomputable def ord10 : Code := (Tryz.f6.body.bind (fromRegion 10)).getD .skip
set_option maxHeartbeats 8000000 in
theorem ord10_any (post : Ending → World → Prop) (k0 k1 m : Int) (w0 w : World) (h0 : U64 k0) (h1 : U64 k1) (N4 : Nat) (L : List Pr) (v9 : Value) (hB0 : Below w0.heap.size w0 w) (hO9 : Own w0.heap.size w v9 L) (hH : Blk w N4 26 #[.int .u64 k0, .int .u64 k1, .int .u64 m]) (hlL : L.length ≤ 30) (hzL : ∀ x ∈ L, x.1.size ≤ 40) (hpost : ∀ w', Below w0.heap.size w0 w' → post (.returned (.bool true)) w')
    (a2 : Option Addr) (len2 cap2 : Nat) (zs : List Int) (hrow : IsRow .u8 w0 a2 len2 cap2 zs) (a3 : Option Addr) (len3 cap3 : Nat) (ps3 : List Pr) (hp3 : ArgP w0 a3 len3 cap3 ps3) (x0 x1 x5 x6 x7 x8 x10 x11 x12 x13 x14 x15 x16 x17 x18 x19 x20 x21 x22 x23 x24 x25 x26 x27 x28 x29 x30 x31 x32 x33 x34 x35 x36 x37 x38 x39 x40 x41 x42 x43 x44 x45 x46 x47 x48 x49 x50 x51 x52 x53 x54 x55 x56 x57 x58 x59 x60 x61 x62 x63 x64 x65 x66 x67 x68 x69 x70 x71 x72 x73 x74 x75 x76 x77 x78 x79 x80 x81 x82 x83 x84 x85 x86 x87 x88 x89 x90 x91 x92 x93 x94 x95 x96 x97 x98 x99 x100 x101 x102 x103 x104 x105 x106 x107 x108 x109 x110 x111 x112 x113 x114 x115 x116 x117 x118 x119 x120 x121 x122 x123 x124 x125 x126 x127 x128 x129 x130 x131 x132 x133 x134 x135 x136 x137 x138 x139 x140 x141 x142 x143 x144 x145 x146 x147 x148 x149 x150 x151 x152 x153 x154 x155 x156 x157 x158 x159 x160 x161 x162 x163 x164 x165 x166 x167 x168 x169 x170 x171 x172 x173 x174 x175 x176 x177 x178 x179 x180 x181 x182 x183 x184 x185 x186 x187 : Value) :
    Code.wp Tryz.prog ord10 (bodyPost Tryz.prog Tryz.f6 post) ⟨#[x0, x1, .slice a2 len2 cap2, .slice a3 len3 cap3, .pointer (some ⟨N4, 0, none⟩), x5, x6, x7, x8, v9, x10, x11, x12, x13, x14, x15, x16, x17, x18, x19, x20, x21, x22, x23, x24, x25, x26, x27, x28, x29, x30, x31, x32, x33, x34, x35, x36, x37, x38, x39, x40, x41, x42, x43, x44, x45, x46, x47, x48, x49, x50, x51, x52, x53, x54, x55, x56, x57, x58, x59, x60, x61, x62, x63, x64, x65, x66, x67, x68, x69, x70, x71, x72, x73, x74, x75, x76, x77, x78, x79, x80, x81, x82, x83, x84, x85, x86, x87, x88, x89, x90, x91, x92, x93, x94, x95, x96, x97, x98, x99, x100, x101, x102, x103, x104, x105, x106, x107, x108, x109, x110, x111, x112, x113, x114, x115, x116, x117, x118, x119, x120, x121, x122, x123, x124, x125, x126, x127, x128, x129, x130, x131, x132, x133, x134, x135, x136, x137, x138, x139, x140, x141, x142, x143, x144, x145, x146, x147, x148, x149, x150, x151, x152, x153, x154, x155, x156, x157, x158, x159, x160, x161, x162, x163, x164, x165, x166, x167, x168, x169, x170, x171, x172, x173, x174, x175, x176, x177, x178, x179, x180, x181, x182, x183, x184, x185, x186, x187], []⟩ w := by
  obtain ⟨A8, c8, rfl, hR8, hAt, hA0⟩ := hO9.lie
  have ks := sorted_any A8 c8 L w hR8 hAt (by omega) hA0
  have HF := Lib.hid (fun wr bn bm (S : List Pr) A9 c9 hB hTn hR9 hH hrS hlS hzS hTm hc9 => ord17_any post k0 k1 m w0 wr h0 h1 N4 bn bm S A9 c9 hB hTn hR9 hH hrS hlS hzS hpost a2 len2 cap2 zs hrow a3 len3 cap3 ps3 hp3 hTm hc9)
  clear hpost hrow hp3 hO9 hR8 hAt hA0
  simp only []
  conv => arg 2; whnf
  go_wp2_with fail
  refine ks.mono ?_
  rintro e w1 ⟨v, S, rfl, hOS, hN, hB1⟩
  have hB := hB0.trans (hB1.mono hB0.size)
  have hH := hH.below hB1
  have hrS := hN.rises
  have hlS : S.length ≤ 30 := Nat.le_trans (rises_len hrS (norm_mem hN)) hlL
  have hzS : ∀ x ∈ S, x.1.size ≤ 40 := fun x hx => hzL x (norm_mem hN x hx)
  obtain ⟨A9, c9, rfl, hR9, hAt9, hA9⟩ := hOS.lie
  have hc9 : A9 = none → c9 = 0 ∧ S = [] := fun e => by
    refine ⟨?_, hA9 e⟩
    rcases hAt9 with ⟨_, h⟩ | ⟨g, h⟩
    · exact h
    · rw [h] at e; cases e
  clear ks hOS hN hB0 hB1 hAt9 hA9 hlL hzL
  go_wp2_with fail
  refine (empty_plain (base := w0.heap.size) k0 k1 m hB.size).mono ?_
  rintro e w2 ⟨bn, rfl, hTn, hB2⟩
  have hB := hB.trans (hB2.mono hB.size)
  have hH := hH.below hB2
  have hR9 := hR9.below hB2
  clear hB2
  go_wp2_with fail
  refine (empty_plain (base := w0.heap.size) k0 k1 m hB.size).mono ?_
  rintro e w3 ⟨bm, rfl, hTm, hB3⟩
  have hB := hB.trans (hB3.mono hB.size)
  have hH := hH.below hB3
  have hR9 := hR9.below hB3
  have hTn := hTn.below hB3
  clear hB3
  go_wp2_with fail
  go_loopw [12, 53] (fun v12 vi wr => ∃ (j bq : Nat) (Z : List Pr), j ≤ S.length ∧ vi = .int .i64 j ∧ v12 = .pointer (some ⟨bq, 0, none⟩) ∧ RisesL Z ∧ Z.length ≤ j ∧ Hid (∀ p, p ∈ Z ↔ p ∈ S.take j) ∧ TP k0 k1 m w0.heap.size wr bq Z ∧ TP k0 k1 m w0.heap.size wr bm [] ∧ Rd wr A9 S ∧ Blk wr N4 26 #[.int .u64 k0, .int .u64 k1, .int .u64 m] ∧ Below w0.heap.size w0 wr) (fun v12 vi wr => S.length - (intOf vi).toNat)
  case atStart => exact ⟨0, bn, [], by omega, rfl, rfl, rises_nil, by simp, Lib.hid (fun p => by simp), hTn, hTm, hR9, hH, hB⟩
  case round =>
    clear hTn hTm hR9 hH hB
    obtain ⟨j, bq, Z, hj, rfl, rfl, hrZ, hlZ, HZ, hTn, hTm, hR9, hH, hB⟩ := hrel
    by_cases hlt : j < S.length
    · obtain ⟨g, off, rfl, c0, c1⟩ := hR9 j S[j] (List.getElem?_eq_getElem hlt)
      have L1 : (j : Int) < (S.length : Int) := by omega
      have L2 : IntKind.i64.wrap ((j : Int) + 1) = ((j + 1 : Nat) : Int) := by rw [IntWalk.i64_in _ (by omega)]; omega
      have HTk := Lib.hid (List.take_succ_eq_append_getElem hlt)
      have hqS : S[j] ∈ S := List.getElem_mem hlt
      have Hlo := Lib.hid (fun p (hp : p ∈ S.take j) => by
        obtain ⟨i, hi, e⟩ := List.getElem_of_mem hp
        rw [List.getElem_take] at e
        have hil : i < j := by rw [List.length_take] at hi; omega
        have := List.pairwise_iff_getElem.1 hrS i j (by omega) hlt hil
        rw [e] at this
        exact this.ne : ∀ p ∈ S.take j, p.1 ≠ S[j].1)
      generalize S[j] = q at *
      have hq1 := hzS q hqS
      go_upto_region 15 with (fail)
      have hBl := (Below.refl _ wr).alloc (Nat.le_refl _) (.cells #[.string q.1, .string q.2] 34)
      have hP := Blk.new wr 34 #[.string q.1, .string q.2]
      have hB := hB.trans (hBl.mono hB.size)
      have hTn := hTn.below hBl
      have hTm := hTm.below hBl
      have hR9 := hR9.below hBl
      have hH := hH.below hBl

      clear hBl c0 c1
      generalize wr.alloc (.cells #[.string q.1, .string q.2] 34) = W1 at *
      generalize wr.heap.size = NP at *
      have p0 : W1.cell? ⟨NP, 0, none⟩ = some (.string q.1) := hP.cell 0
      have p1 : W1.cell? ⟨NP, 1, none⟩ = some (.string q.2) := hP.cell 1
      have s0 : W1.cell? ⟨N4, 0, none⟩ = some (.int .u64 k0) := hH.cell 0
      have s1 : W1.cell? ⟨N4, 1, none⟩ = some (.int .u64 k1) := hH.cell 1
      have s2 : W1.cell? ⟨N4, 2, none⟩ = some (.int .u64 m) := hH.cell 2

      have hzZ : ∀ x ∈ Z, x.1.size ≤ 1000 := fun x hx => Nat.le_trans (hzS x (List.mem_of_mem_take ((HZ.out x).1 hx))) (by omega)
      have kp := put_plain q h0 h1 (by omega) hB.size hTn hrZ (by omega) hzZ
      clear hP hzZ
      go_wp2_with fail
      refine kp.mono ?_
      rintro e w4 ⟨b1, rfl, hT1, hB1, -⟩
      have hB := hB.trans (hB1.mono hB.size)
      have hTm := hTm.below hB1
      have hR9 := hR9.below hB1
      have hH := hH.below hB1

      clear kp s0 s1 s2 p0 p1 hB1 hTn
      generalize (getK Z q.1).isNone = gb at *
      go_wp2_with fail
      refine ⟨⟨j + 1, b1, putK Z q, by omega, by go_num, rfl, put_rises _ hrZ, ?_, Lib.hid (fun z => ?_), hT1, hTm, hR9, hH, hB⟩, by simp [intOf]; omega⟩
      · have := put_len (ps := Z) q
        omega
      · rw [put_sets, HTk.out, List.mem_append, List.mem_singleton, HZ.out z]
        constructor
        · rintro (h | ⟨h, _⟩)
          · exact .inr h
          · exact .inl h
        · rintro (h | h)
          · exact .inr ⟨h, Hlo.out z h⟩
          · exact .inl h
    · obtain rfl : j = S.length := by omega
      have G : ¬ ((S.length : Int) < (S.length : Int)) := by omega
      have e : Z = S := rises_ext hrZ hrS fun z => by rw [HZ.out z, List.take_length]
      subst e
      have HFF := Lib.hid (HF.out wr bq bm Z A9 c9 hB hTn hR9 hH hrS hlS hzS hTm hc9)
      clear HF hTn hR9 hH hTm
      repeat (first | exact HFF.out _ _ _ _ _ _ _ _ _ _ _ _ _ _ _ _ _ _ _ _ _ _ _ _ _ _ _ _ _ _ _ _ _ _ _ _ _ _ _ _ _ _ _ _ _ _ _ _ _ _ _ _ _ _ _ _ _ _ _ _ _ _ _ _ _ _ _ _ _ _ _ _ _ _ _ _ _ _ _ _ _ _ _ _ _ _ _ _ _ _ _ _ _ _ _ _ _ _ _ _ _ _ _ _ _ _ _ _ _ _ _ _ _ _ _ _ _ _ _ _ _ _ _ _ _ _ _ _ _ _ _ _ _ _ _ _ _ _ _ _ _ _ _ _ _ _ _ _ _ _ _ _ _ _ _ _ _ _ _ _ _ _ _ _ _ _ _ _ _ _ _ _ _ _ _ _ _ _ _ _ _ _ | go_step)
end Go.Proofs.YtfmbikmpobieoaaGreat.champOrders
