/- The law's 'like': who owns a node. -/
import Derived.Test.YtgldgdpgbfejmaaYk
import Derived.BigQuiet
import Derived.Test.YtgldgdpgbfejmaaMM
namespace Go.Proofs.Ytgldgdpgbfejmaa
open Go.RowKit Go.Lib Go.Conc
set_option linter.unusedVariables false
set_option linter.unusedSimpArgs false
noncomputable def like33 : Code := (Try.f15.body.bind (fromRegion 33)).getD .skip
theorem NodeIs.owned {base : Nat} {w : World} {p c : Nat} {ts : List (Option Nat)} {lv : List Bool} {bl : List Nat} {nb : NB} {r : RN} (h : NodeIs base w ts bl nb r) (hT : Tks w p c ts lv) (ho : r.ow < 5) (t : Nat) (ht : t < 5) :
    Calls Try.prog 31 #[at0 nb.b, pt (owO ts t)] w fun e w' => e = .returned (.bool (refOwn r t lv)) ∧ w = w' := by
  obtain ⟨-, -, t1, -⟩ := hT.tv t ht
  obtain ⟨-, -, t2, -⟩ := hT.tv r.ow ho
  obtain ⟨d, nn, xs, ks, hv, -, -⟩ := h.ndv
  rw [← hT.own r t ho ht]
  exact owned_any base nb.b _ _ _ _ r.bk d nn nb.pv nb.kv xs ks w hv t1 t2
set_option maxRecDepth 1000000 in
set_option maxHeartbeats 8000000 in
theorem like33_any (post : Ending → World → Prop) (base p c xb wb B : Nat) (lw tw Nv Lv vl : Value) (ts : List (Option Nat)) (lv : List Bool) (bl : List Nat) (bs : List NB) (ns : List (RN × Value)) (nb : NB) (r : RN) (w : World)
    (hT : Tks w p c ts lv) (hA : RefA base w xb Nv Lv ns lv) (hL : Li base w wb p xb lw tw ts bl bs) (hN : NodeIs base w ts bl nb r) (ho : r.ow < 5) (hB : Blk w B 85 (rcells r vl).toArray) (hpost : post (.returned (.bool true)) w) (x1 x2 x3 x4 x7 x8 x9 x10 x11 x12 x13 x14 x15 x16 x17 x18 x19 x20 x21 x22 x23 x24 x25 x26 x27 x28 x29 x30 x31 x32 x33 x34 x35 x36 x37 x38 x39 x40 x41 x42 x43 x44 x45 x46 x47 x48 x49 x50 x51 x52 x53 x54 x55 x56 x57 x58 x59 x60 x61 x62 x63 x64 x65 x66 x67 x68 x69 x70 x71 x72 x73 x74 x75 x76 x77 x78 x79 x80 x81 x82 x83 x84 x85 x86 x87 x88 x89 x90 x91 x92 x93 x94 x95 x96 x97 x98 x99 x100 x101 x102 x103 x104 x105 x106 x107 x108 x109 x110 x111 x112 x113 x114 x115 x116 x117 x118 x119 x120 x121 x122 x123 x124 x125 x126 x127 x128 x129 x130 x131 x132 x133 x134 x135 x136 x137 x138 x139 x140 x141 x142 x143 x144 x145 x146 x147 x148 x149 x150 x151 x152 x153 x154 x155 x156 x157 x158 x159 x160 x161 x162 x163 x164 x165 x166 x167 x168 x169 x170 x171 x172 x173 x174 x175 x176 x177 x178 x179 x180 x181 x182 x183 x184 x185 x186 x187 x188 x189 x190 x191 x192 x193 x194 x195 x196 x197 x198 x199 x200 x201 x202 x203 x204 x205 x206 x207 x208 x209 x210 x211 x212 x213 x214 x215 x216 x217 x218 x219 x220 x221 x222 x223 x224 x225 x226 x227 x228 x229 x230 x231 x232 x233 x234 x235 x236 x237 : Value) :
    Code.wp Try.prog like33 (bodyPost Try.prog Try.f15 post) ⟨#[.pointer (some ⟨wb, 0, none⟩), x1, x2, x3, x4, .pointer (some ⟨nb.b, 0, none⟩), .pointer (some ⟨B, 0, none⟩), x7, x8, x9, x10, x11, x12, x13, x14, x15, x16, x17, x18, x19, x20, x21, x22, x23, x24, x25, x26, x27, x28, x29, x30, x31, x32, x33, x34, x35, x36, x37, x38, x39, x40, x41, x42, x43, x44, x45, x46, x47, x48, x49, x50, x51, x52, x53, x54, x55, x56, x57, x58, x59, x60, x61, x62, x63, x64, x65, x66, x67, x68, x69, x70, x71, x72, x73, x74, x75, x76, x77, x78, x79, x80, x81, x82, x83, x84, x85, x86, x87, x88, x89, x90, x91, x92, x93, x94, x95, x96, x97, x98, x99, x100, x101, x102, x103, x104, x105, x106, x107, x108, x109, x110, x111, x112, x113, x114, x115, x116, x117, x118, x119, x120, x121, x122, x123, x124, x125, x126, x127, x128, x129, x130, x131, x132, x133, x134, x135, x136, x137, x138, x139, x140, x141, x142, x143, x144, x145, x146, x147, x148, x149, x150, x151, x152, x153, x154, x155, x156, x157, x158, x159, x160, x161, x162, x163, x164, x165, x166, x167, x168, x169, x170, x171, x172, x173, x174, x175, x176, x177, x178, x179, x180, x181, x182, x183, x184, x185, x186, x187, x188, x189, x190, x191, x192, x193, x194, x195, x196, x197, x198, x199, x200, x201, x202, x203, x204, x205, x206, x207, x208, x209, x210, x211, x212, x213, x214, x215, x216, x217, x218, x219, x220, x221, x222, x223, x224, x225, x226, x227, x228, x229, x230, x231, x232, x233, x234, x235, x236, x237], []⟩ w := by
  obtain ⟨tg, tc, tcur, rfl, -⟩ := own_blk hL.t (by omega)
  have hll := hT.llen
  obtain ⟨gl, lc, lcur, e, -⟩ := own_blk hA.live (by omega)
  rw [hll] at e
  subst e
  have c1 : w.cell? ⟨wb, 1, none⟩ = some (.slice (some ⟨tg, 0, none⟩) 5 tc) := hL.blk.cell 1
  have c3 : w.cell? ⟨wb, 3, none⟩ = some (.pointer (some ⟨xb, 0, none⟩)) := hL.blk.cell 3
  have d1 : w.cell? ⟨xb, 1, none⟩ = some (.slice (some ⟨gl, 0, none⟩) 5 lc) := hA.blk.cell 1
  have o130 : w.cell? ⟨B, 130, none⟩ = some (.int .i64 (r.ow : Nat)) := by
    rw [hB.cell 130, show (rcells r vl).toArray[130]? = (rcells r vl)[130]? by simp, rcells_get _ _ _ (by omega), rcell_ow]
  have tks : ∀ t, t < 5 → ∃ b, w.cell? ⟨tg, t, none⟩ = some (pt (owO ts t)) ∧ w.cell? ⟨gl, t, none⟩ = some (.bool b) ∧ refOwn r t lv = (decide (0 < t) && b && decide (r.ow = t)) := fun t ht => by
    obtain ⟨b, hb⟩ : ∃ b, lv[t]? = some b := ⟨_, List.getElem?_eq_getElem (by omega)⟩
    obtain ⟨g', c', e', -, hc⟩ := hA.liveAt t b hb
    rw [hll] at e'
    cases e'
    have ht' : w.ownsRow base 64 1 (.slice (some ⟨tg, 0, none⟩) 5 tc) 5 (ts.map pt) := hL.t
    refine ⟨b, ?_, hc, by unfold refOwn liveB; rw [hb]; rfl⟩
    rw [ht'.cellAt _ (by omega)]
    have htl : t < ts.length := by rw [hT.len]; exact ht
    have : ts[t]? = some ts[t] := List.getElem?_eq_getElem htl
    simp [owO, this]
  have HTK := Lib.hid tks
  have HOW := Lib.hid (fun (t : Nat) (ht : t < 5) => hN.owned hT ho t ht)
  have HP := Lib.hid hpost
  clear tks hT hA hL hN hB hpost hll ho
  simp only []
  conv => arg 2; whnf
  go_wp2_with fail
  go_loopw [204] (fun vi wr => ∃ t : Nat, t ≤ 5 ∧ vi = .int .i64 t ∧ wr = w) (fun vi wr => 5 - (intOf vi).toNat)
  case atStart => exact ⟨0, by omega, rfl, rfl⟩
  case round =>
    obtain ⟨t, ht, rfl, rfl⟩ := hrel
    by_cases hlt : t < 5
    · obtain ⟨b, e1, e2, e3⟩ := HTK.out t hlt
      have hc := HOW.out t hlt
      rw [e3] at hc
      obtain ⟨tv, htv⟩ : ∃ tv, tv = pt (owO ts t) := ⟨_, rfl⟩
      rw [← htv] at e1 hc
      unfold at0 at hc
      have B1 : (t : Int) < 5 := by omega
      have B2 : IntKind.i64.wrap ((t : Int) + 1) = ((t + 1 : Nat) : Int) := by rw [IntWalk.i64_in _ (by omega)]; omega
      clear e3 htv HOW HTK
      by_cases h0 : t = 0
      · subst h0
        go_wp2_with fail
        refine hc.mono ?_
        rintro e w' ⟨rfl, rfl⟩
        go_wp2_with fail
        exact ⟨⟨1, by omega, rfl, trivial⟩, by simp [intOf]⟩
      · have B3 : (0 : Int) < (t : Int) := by omega
        have B4 : decide (0 < t) = true := decide_eq_true (by omega)
        rw [B4] at hc
        cases b with
        | false =>
          go_wp2_with fail
          refine hc.mono ?_
          rintro e w' ⟨rfl, rfl⟩
          go_wp2_with fail
          exact ⟨⟨t + 1, by omega, by go_num, trivial⟩, by simp [intOf]; omega⟩
        | true =>
          by_cases h5 : r.ow = t
          · have B5 : ((r.ow : Nat) : Int) = (t : Int) := by omega
            rw [decide_eq_true h5] at hc
            rw [B5] at o130
            go_wp2_with fail
            refine hc.mono ?_
            rintro e w' ⟨rfl, rfl⟩
            go_wp2_with fail
            exact ⟨⟨t + 1, by omega, by go_num, trivial⟩, by simp [intOf]; omega⟩
          · have B5 : ¬ ((r.ow : Nat) : Int) = (t : Int) := by omega
            rw [decide_eq_false h5] at hc
            go_wp2_with fail
            refine hc.mono ?_
            rintro e w' ⟨rfl, rfl⟩
            go_wp2_with fail
            exact ⟨⟨t + 1, by omega, by go_num, trivial⟩, by simp [intOf]; omega⟩
    · go_wp2_with fail
      exact HP.out

end Go.Proofs.Ytgldgdpgbfejmaa
/- The law's 'like': its children. -/
namespace Go.Proofs.Ytgldgdpgbfejmaa
open Go.RowKit Go.Lib Go.Conc
set_option linter.unusedVariables false
set_option linter.unusedSimpArgs false
noncomputable def like27 : Code := (Try.f15.body.bind (fromRegion 27)).getD .skip
theorem OwnK.formK {base : Nat} {w : World} {v : Value} {ks : List Nat} (h : OwnK base w v ks) : ∃ A c, v = .slice A ks.length c ∧ ∀ j, j < ks.length → ∃ b g, A = some ⟨g, 0, none⟩ ∧ ks[j]? = some b ∧ w.cell? ⟨g, j, none⟩ = some (.pointer (some ⟨b, 0, none⟩)) := by
  obtain ⟨A, c, rfl⟩ := own_formN h
  refine ⟨A, c, rfl, fun j hj => ?_⟩
  obtain ⟨g, cap, e, -, hc⟩ := h.atK j ks[j] (List.getElem?_eq_getElem hj)
  cases e
  exact ⟨ks[j], g, rfl, List.getElem?_eq_getElem hj, hc⟩
set_option maxRecDepth 1000000 in
set_option maxHeartbeats 8000000 in
theorem like27_any (post : Ending → World → Prop) (base p c xb wb B B1 B2 : Nat) (lw tw Nv Lv vl kv8 kv18 : Value) (ts : List (Option Nat)) (lv : List Bool) (bl ks : List Nat) (bs : List NB) (ns : List (RN × Value)) (nb : NB) (r : RN) (w : World)
    (hT : Tks w p c ts lv) (hA : RefA base w xb Nv Lv ns lv) (hL : Li base w wb p xb lw tw ts bl bs) (hN : NodeIs base w ts bl nb r) (ho : r.ow < 5) (hB : Blk w B 85 (rcells r vl).toArray) (h8 : OwnK B1 w kv8 ks) (h18 : OwnK B2 w kv18 ks) (hk : ks.length ≤ 32) (hpost : ∀ q, post (.returned (.bool true)) (w.drewN q)) (x1 x2 x3 x4 x7 x9 x10 x11 x12 x13 x14 x15 x16 x17 x19 x20 x21 x22 x23 x24 x25 x26 x27 x28 x29 x30 x31 x32 x33 x34 x35 x36 x37 x38 x39 x40 x41 x42 x43 x44 x45 x46 x47 x48 x49 x50 x51 x52 x53 x54 x55 x56 x57 x58 x59 x60 x61 x62 x63 x64 x65 x66 x67 x68 x69 x70 x71 x72 x73 x74 x75 x76 x77 x78 x79 x80 x81 x82 x83 x84 x85 x86 x87 x88 x89 x90 x91 x92 x93 x94 x95 x96 x97 x98 x99 x100 x101 x102 x103 x104 x105 x106 x107 x108 x109 x110 x111 x112 x113 x114 x115 x116 x117 x118 x119 x120 x121 x122 x123 x124 x125 x126 x127 x128 x129 x130 x131 x132 x133 x134 x135 x136 x137 x138 x139 x140 x141 x142 x143 x144 x145 x146 x147 x148 x149 x150 x151 x152 x153 x154 x155 x156 x157 x158 x159 x160 x161 x162 x163 x164 x165 x166 x167 x168 x169 x170 x171 x172 x173 x174 x175 x176 x177 x178 x179 x180 x181 x182 x183 x184 x185 x186 x187 x188 x189 x190 x191 x192 x193 x194 x195 x196 x197 x198 x199 x200 x201 x202 x203 x204 x205 x206 x207 x208 x209 x210 x211 x212 x213 x214 x215 x216 x217 x218 x219 x220 x221 x222 x223 x224 x225 x226 x227 x228 x229 x230 x231 x232 x233 x234 x235 x236 x237 : Value) :
    Code.wp Try.prog like27 (bodyPost Try.prog Try.f15 post) ⟨#[.pointer (some ⟨wb, 0, none⟩), x1, x2, x3, x4, .pointer (some ⟨nb.b, 0, none⟩), .pointer (some ⟨B, 0, none⟩), x7, kv8, x9, x10, x11, x12, x13, x14, x15, x16, x17, kv18, x19, x20, x21, x22, x23, x24, x25, x26, x27, x28, x29, x30, x31, x32, x33, x34, x35, x36, x37, x38, x39, x40, x41, x42, x43, x44, x45, x46, x47, x48, x49, x50, x51, x52, x53, x54, x55, x56, x57, x58, x59, x60, x61, x62, x63, x64, x65, x66, x67, x68, x69, x70, x71, x72, x73, x74, x75, x76, x77, x78, x79, x80, x81, x82, x83, x84, x85, x86, x87, x88, x89, x90, x91, x92, x93, x94, x95, x96, x97, x98, x99, x100, x101, x102, x103, x104, x105, x106, x107, x108, x109, x110, x111, x112, x113, x114, x115, x116, x117, x118, x119, x120, x121, x122, x123, x124, x125, x126, x127, x128, x129, x130, x131, x132, x133, x134, x135, x136, x137, x138, x139, x140, x141, x142, x143, x144, x145, x146, x147, x148, x149, x150, x151, x152, x153, x154, x155, x156, x157, x158, x159, x160, x161, x162, x163, x164, x165, x166, x167, x168, x169, x170, x171, x172, x173, x174, x175, x176, x177, x178, x179, x180, x181, x182, x183, x184, x185, x186, x187, x188, x189, x190, x191, x192, x193, x194, x195, x196, x197, x198, x199, x200, x201, x202, x203, x204, x205, x206, x207, x208, x209, x210, x211, x212, x213, x214, x215, x216, x217, x218, x219, x220, x221, x222, x223, x224, x225, x226, x227, x228, x229, x230, x231, x232, x233, x234, x235, x236, x237], []⟩ w := by
  obtain ⟨A8, c8, rfl, a8⟩ := h8.formK
  obtain ⟨A18, c18, rfl, a18⟩ := h18.formK
  have H8 := Lib.hid a8
  have H18 := Lib.hid a18
  have hBd : ∀ q, Below w.heap.size w (w.drewN q) := fun q => ⟨rfl, rfl, rfl, Nat.le_refl _, fun _ _ => rfl⟩
  have HF := Lib.hid (fun q => like33_any post base p c xb wb B lw tw Nv Lv vl ts lv bl bs ns nb r (w.drewN q) (hT.keep (Keep.of_below (X := []) (hBd q)) (by simp)) (hA.below (hBd q)) (hL.below (hBd q)) (hN.below (hBd q)) ho (hB.below (hBd q)) (hpost q))
  clear hT hA hL hN hB hpost h8 h18 a8 a18 hBd
  obtain ⟨K, hK⟩ : ∃ K, K = ks.length := ⟨_, rfl⟩
  rw [← hK] at H8 H18 hk ⊢
  clear hK
  simp only []
  conv => arg 2; whnf
  go_wp2_with fail
  go_loopw [186] (fun vi wr => ∃ j : Nat, j ≤ K ∧ vi = .int .i64 j ∧ ∃ q, wr = w.drewN q) (fun vi wr => K - (intOf vi).toNat)
  case atStart => exact ⟨0, by omega, rfl, 0, rfl⟩
  case round =>
    obtain ⟨j, hj, rfl, q, rfl⟩ := hrel
    by_cases hlt : j < K
    · obtain ⟨b, g8, rfl, e1, f1⟩ := H8.out j hlt
      obtain ⟨b', g18, rfl, e2, f2⟩ := H18.out j hlt
      rw [e1] at e2
      cases e2
      have m1 : (w.drewN q).cell? ⟨g8, j, none⟩ = some (.pointer (some ⟨b, 0, none⟩)) := f1
      have m2 : (w.drewN q).cell? ⟨g18, j, none⟩ = some (.pointer (some ⟨b, 0, none⟩)) := f2
      have L1 : (j : Int) < (K : Int) := by omega
      have L2 : IntKind.i64.wrap ((j : Int) + 1) = ((j + 1 : Nat) : Int) := by rw [IntWalk.i64_in _ (by omega)]; omega
      have ne := fun w => neq_node_same b w
      unfold at0 at ne
      have HD : ∀ n, (w.drewN q).drewN n = w.drewN (q + n) := fun n => World.drewN_drewN w q n
      have HDH := Lib.hid HD
      clear f1 f2 e1 HD
      generalize w.drewN q = W at *
      go_upto_region 30 with (fail)
      go_quiet (fail)
      go_wp2_with fail
      exact ⟨⟨j + 1, by omega, by go_num, q + nq, HDH.out nq⟩, by simp [intOf]; omega⟩
    · have HFq := Lib.hid (HF.out q)
      clear HF
      generalize w.drewN q = W at *
      repeat (first | exact HFq.out _ _ _ _ _ _ _ _ _ _ _ _ _ _ _ _ _ _ _ _ _ _ _ _ _ _ _ _ _ _ _ _ _ _ _ _ _ _ _ _ _ _ _ _ _ _ _ _ _ _ _ _ _ _ _ _ _ _ _ _ _ _ _ _ _ _ _ _ _ _ _ _ _ _ _ _ _ _ _ _ _ _ _ _ _ _ _ _ _ _ _ _ _ _ _ _ _ _ _ _ _ _ _ _ _ _ _ _ _ _ _ _ _ _ _ _ _ _ _ _ _ _ _ _ _ _ _ _ _ _ _ _ _ _ _ _ _ _ _ _ _ _ _ _ _ _ _ _ _ _ _ _ _ _ _ _ _ _ _ _ _ _ _ _ _ _ _ _ _ _ _ _ _ _ _ _ _ _ _ _ _ _ _ _ _ _ _ _ _ _ _ _ _ _ _ _ _ _ _ _ _ _ _ _ _ _ _ _ _ _ _ _ _ _ _ _ _ _ _ _ _ _ _ _ _ _ _ _ _ _ _ _ _ _ _ | go_step)

end Go.Proofs.Ytgldgdpgbfejmaa
/- The law's 'like': what a node says as a whole. -/
namespace Go.Proofs.Ytgldgdpgbfejmaa
open Go.RowKit Go.Lib Go.Conc
set_option linter.unusedVariables false
set_option linter.unusedSimpArgs false
noncomputable def like24 : Code := (Try.f15.body.bind (fromRegion 24)).getD .skip
theorem leq_refl (xs : List Pr) : leq xs xs = true := decide_eq_true rfl
set_option maxRecDepth 1000000 in
set_option maxHeartbeats 8000000 in
theorem like24_any (post : Ending → World → Prop) (base p c xb wb B B1 B2 d nn : Nat) (lw tw Nv Lv vl v7 v8 o : Value) (bk : Bool) (ts : List (Option Nat)) (lv : List Bool) (bl ks : List Nat) (xp : List Pr) (bs : List NB) (ns : List (RN × Value)) (nb : NB) (r : RN) (w : World)
    (hT : Tks w p c ts lv) (hA : RefA base w xb Nv Lv ns lv) (hL : Li base w wb p xb lw tw ts bl bs) (hN : NodeIs base w ts bl nb r) (ho : r.ow < 5) (hB : Blk w B 85 (rcells r vl).toArray) (hv : NdV base w nb.b o bk d nn nb.pv nb.kv xp ks) (h7 : Own B1 w v7 xp) (h8 : OwnK B2 w v8 ks) (hk : ks.length ≤ 32) (hx : xp.length ≤ 800) (hpost : ∀ w', Below w.heap.size w w' → post (.returned (.bool true)) w') (x1 x2 x3 x4 x11 x12 x13 x14 x15 x16 x17 x18 x19 x20 x21 x22 x23 x24 x25 x26 x27 x28 x29 x30 x31 x32 x33 x34 x35 x36 x37 x38 x39 x40 x41 x42 x43 x44 x45 x46 x47 x48 x49 x50 x51 x52 x53 x54 x55 x56 x57 x58 x59 x60 x61 x62 x63 x64 x65 x66 x67 x68 x69 x70 x71 x72 x73 x74 x75 x76 x77 x78 x79 x80 x81 x82 x83 x84 x85 x86 x87 x88 x89 x90 x91 x92 x93 x94 x95 x96 x97 x98 x99 x100 x101 x102 x103 x104 x105 x106 x107 x108 x109 x110 x111 x112 x113 x114 x115 x116 x117 x118 x119 x120 x121 x122 x123 x124 x125 x126 x127 x128 x129 x130 x131 x132 x133 x134 x135 x136 x137 x138 x139 x140 x141 x142 x143 x144 x145 x146 x147 x148 x149 x150 x151 x152 x153 x154 x155 x156 x157 x158 x159 x160 x161 x162 x163 x164 x165 x166 x167 x168 x169 x170 x171 x172 x173 x174 x175 x176 x177 x178 x179 x180 x181 x182 x183 x184 x185 x186 x187 x188 x189 x190 x191 x192 x193 x194 x195 x196 x197 x198 x199 x200 x201 x202 x203 x204 x205 x206 x207 x208 x209 x210 x211 x212 x213 x214 x215 x216 x217 x218 x219 x220 x221 x222 x223 x224 x225 x226 x227 x228 x229 x230 x231 x232 x233 x234 x235 x236 x237 : Value) :
    Code.wp Try.prog like24 (bodyPost Try.prog Try.f15 post) ⟨#[.pointer (some ⟨wb, 0, none⟩), x1, x2, x3, x4, .pointer (some ⟨nb.b, 0, none⟩), .pointer (some ⟨B, 0, none⟩), v7, v8, .int .u32 d, .int .u32 nn, x11, x12, x13, x14, x15, x16, x17, x18, x19, x20, x21, x22, x23, x24, x25, x26, x27, x28, x29, x30, x31, x32, x33, x34, x35, x36, x37, x38, x39, x40, x41, x42, x43, x44, x45, x46, x47, x48, x49, x50, x51, x52, x53, x54, x55, x56, x57, x58, x59, x60, x61, x62, x63, x64, x65, x66, x67, x68, x69, x70, x71, x72, x73, x74, x75, x76, x77, x78, x79, x80, x81, x82, x83, x84, x85, x86, x87, x88, x89, x90, x91, x92, x93, x94, x95, x96, x97, x98, x99, x100, x101, x102, x103, x104, x105, x106, x107, x108, x109, x110, x111, x112, x113, x114, x115, x116, x117, x118, x119, x120, x121, x122, x123, x124, x125, x126, x127, x128, x129, x130, x131, x132, x133, x134, x135, x136, x137, x138, x139, x140, x141, x142, x143, x144, x145, x146, x147, x148, x149, x150, x151, x152, x153, x154, x155, x156, x157, x158, x159, x160, x161, x162, x163, x164, x165, x166, x167, x168, x169, x170, x171, x172, x173, x174, x175, x176, x177, x178, x179, x180, x181, x182, x183, x184, x185, x186, x187, x188, x189, x190, x191, x192, x193, x194, x195, x196, x197, x198, x199, x200, x201, x202, x203, x204, x205, x206, x207, x208, x209, x210, x211, x212, x213, x214, x215, x216, x217, x218, x219, x220, x221, x222, x223, x224, x225, x226, x227, x228, x229, x230, x231, x232, x233, x234, x235, x236, x237], []⟩ w := by
  have k1 := kids_any base nb.b o bk d nn nb.pv nb.kv xp ks w hv (by omega)
  obtain ⟨A7, c7, rfl, r7⟩ := own_slice h7
  obtain ⟨A8, c8, rfl⟩ := own_formN h8
  unfold at0 at k1
  have HP := Lib.hid hpost
  have HT := Lib.hid hT
  have HA := Lib.hid hA
  have HL := Lib.hid hL
  have HN := Lib.hid hN
  have HB := Lib.hid hB
  have HV := Lib.hid hv
  have H7 := Lib.hid r7
  have H8 := Lib.hid h8
  clear hpost hT hA hL hN hB hv r7 h7 h8
  simp only []
  conv => arg 2; whnf
  go_wp2_with fail
  refine k1.mono ?_
  rintro e w1 ⟨v18, rfl, h18, hB1⟩
  have k2 := pairs_any base nb.b o bk d nn nb.pv nb.kv xp ks w1 (HV.out.below hB1) hx
  obtain ⟨A18, c18, rfl⟩ := own_formN h18
  have H18 := Lib.hid h18
  unfold at0 at k2
  clear k1 h18
  go_wp2_with fail
  refine k2.mono ?_
  rintro e w2 ⟨v16, rfl, h16, hB2⟩
  obtain ⟨A16, c16, rfl, r16⟩ := own_slice h16
  have hB12 := hB1.trans (hB2.mono hB1.size)
  have k3 := same_any A16 A7 c16 c7 xp xp w2 r16 (H7.out.below hB12) (by omega) (by omega)
  rw [leq_refl] at k3
  clear k2 h16 r16
  go_wp2_with fail
  refine k3.mono ?_
  rintro e w3 ⟨rfl, q3, rfl⟩
  have hB3 : Below w.heap.size w (w2.drewN q3) := ⟨hB12.os, hB12.tape, hB12.output, hB12.size, hB12.block⟩
  have hK3 : OwnK w.heap.size (w2.drewN q3) (.slice A18 ks.length c18) ks := (H18.out.below hB2).below ⟨rfl, rfl, rfl, Nat.le_refl _, fun _ _ => rfl⟩
  generalize w2.drewN q3 = W at *
  have k4 := data_any base nb.b o bk d nn nb.pv nb.kv xp ks W (HV.out.below hB3)
  have k5 := nodes_any base nb.b o bk d nn nb.pv nb.kv xp ks W (HV.out.below hB3)
  have k6 := len_any base nb.b o bk d nn nb.pv nb.kv xp ks W (HV.out.below hB3) hx (by omega)
  have F : IntKind.i64.wrap ((xp.length : Int) + (ks.length : Int)) = ((xp.length + ks.length : Nat) : Int) := by rw [IntWalk.i64_in _ (by omega)]; omega
  unfold at0 at k4 k5 k6
  clear k3 hB12 hB1 hB2 H18
  go_wp2_with fail
  refine k4.mono ?_
  rintro e w' ⟨rfl, rfl⟩
  go_wp2_with fail
  refine k5.mono ?_
  rintro e w' ⟨rfl, rfl⟩
  go_wp2_with fail
  refine k6.mono ?_
  rintro e w' ⟨rfl, q6, rfl⟩
  have hB6 : Below w.heap.size w (W.drewN q6) := ⟨hB3.os, hB3.tape, hB3.output, hB3.size, hB3.block⟩
  have hK6 : OwnK w.heap.size (W.drewN q6) (.slice A18 ks.length c18) ks := hK3.below ⟨rfl, rfl, rfl, Nat.le_refl _, fun _ _ => rfl⟩
  have HF := Lib.hid (like27_any post base p c xb wb B B2 w.heap.size lw tw Nv Lv vl _ _ ts lv bl ks bs ns nb r (W.drewN q6) (HT.out.keep (Keep.of_below (X := []) hB6) (by simp)) (HA.out.below hB6) (HL.out.below hB6) (HN.out.below hB6) ho (HB.out.below hB6) (H8.out.below hB6) hK6 hk (fun q => HP.out _ ⟨hB6.os, hB6.tape, hB6.output, hB6.size, hB6.block⟩))
  clear k4 k5 k6 hB3 hK3 hB6 hK6 HT HA HL HN HB HV H7 H8 HP
  generalize W.drewN q6 = W9 at *
  dsimp only
  repeat (first | exact HF.out _ _ _ _ _ _ _ _ _ _ _ _ _ _ _ _ _ _ _ _ _ _ _ _ _ _ _ _ _ _ _ _ _ _ _ _ _ _ _ _ _ _ _ _ _ _ _ _ _ _ _ _ _ _ _ _ _ _ _ _ _ _ _ _ _ _ _ _ _ _ _ _ _ _ _ _ _ _ _ _ _ _ _ _ _ _ _ _ _ _ _ _ _ _ _ _ _ _ _ _ _ _ _ _ _ _ _ _ _ _ _ _ _ _ _ _ _ _ _ _ _ _ _ _ _ _ _ _ _ _ _ _ _ _ _ _ _ _ _ _ _ _ _ _ _ _ _ _ _ _ _ _ _ _ _ _ _ _ _ _ _ _ _ _ _ _ _ _ _ _ _ _ _ _ _ _ _ _ _ _ _ _ _ _ _ _ _ _ _ _ _ _ _ _ _ _ _ _ _ _ _ _ _ _ _ _ _ _ _ _ _ _ _ _ _ _ _ _ _ _ _ _ _ _ _ _ _ _ _ _ _ _ _ | go_step)

end Go.Proofs.Ytgldgdpgbfejmaa
/- The law's 'like': a bucket's pairs. -/
namespace Go.Proofs.Ytgldgdpgbfejmaa
open Go.RowKit Go.Lib Go.Conc
set_option linter.unusedVariables false
set_option linter.unusedSimpArgs false
noncomputable def like19 : Code := (Try.f15.body.bind (fromRegion 19)).getD .skip
set_option maxRecDepth 1000000 in
set_option maxHeartbeats 8000000 in
theorem like19_any (post : Ending → World → Prop) (base p c xb wb B d nn : Nat) (lw tw Nv Lv vl v7 v8 o : Value) (bk : Bool) (ts : List (Option Nat)) (lv : List Bool) (bl ks : List Nat) (xp x0 : List Pr) (bs : List NB) (ns : List (RN × Value)) (nb : NB) (r : RN) (w0 w : World)
    (hT : Tks w0 p c ts lv) (hA : RefA base w0 xb Nv Lv ns lv) (hL : Li base w0 wb p xb lw tw ts bl bs) (hN : NodeIs base w0 ts bl nb r) (ho : r.ow < 5) (hv : NdV base w0 nb.b o bk d nn nb.pv nb.kv xp ks) (hvl : OwnR base w0 vl r.L) (hW : Below w0.heap.size w0 w) (hB : Blk w B 85 (rcells r vl).toArray) (h7 : Own w0.heap.size w v7 x0) (h8 : OwnK w0.heap.size w v8 ks) (hxp : xp = x0 ++ r.L) (hk : ks.length ≤ 32) (hx : xp.length ≤ 800) (hpost : ∀ w', Below w0.heap.size w0 w' → post (.returned (.bool true)) w') (x1 x2 x3 x4 x11 x12 x13 x14 x15 x16 x17 x18 x19 x20 x21 x22 x23 x24 x25 x26 x27 x28 x29 x30 x31 x32 x33 x34 x35 x36 x37 x38 x39 x40 x41 x42 x43 x44 x45 x46 x47 x48 x49 x50 x51 x52 x53 x54 x55 x56 x57 x58 x59 x60 x61 x62 x63 x64 x65 x66 x67 x68 x69 x70 x71 x72 x73 x74 x75 x76 x77 x78 x79 x80 x81 x82 x83 x84 x85 x86 x87 x88 x89 x90 x91 x92 x93 x94 x95 x96 x97 x98 x99 x100 x101 x102 x103 x104 x105 x106 x107 x108 x109 x110 x111 x112 x113 x114 x115 x116 x117 x118 x119 x120 x121 x122 x123 x124 x125 x126 x127 x128 x129 x130 x131 x132 x133 x134 x135 x136 x137 x138 x139 x140 x141 x142 x143 x144 x145 x146 x147 x148 x149 x150 x151 x152 x153 x154 x155 x156 x157 x158 x159 x160 x161 x162 x163 x164 x165 x166 x167 x168 x169 x170 x171 x172 x173 x174 x175 x176 x177 x178 x179 x180 x181 x182 x183 x184 x185 x186 x187 x188 x189 x190 x191 x192 x193 x194 x195 x196 x197 x198 x199 x200 x201 x202 x203 x204 x205 x206 x207 x208 x209 x210 x211 x212 x213 x214 x215 x216 x217 x218 x219 x220 x221 x222 x223 x224 x225 x226 x227 x228 x229 x230 x231 x232 x233 x234 x235 x236 x237 : Value) :
    Code.wp Try.prog like19 (bodyPost Try.prog Try.f15 post) ⟨#[.pointer (some ⟨wb, 0, none⟩), x1, x2, x3, x4, .pointer (some ⟨nb.b, 0, none⟩), .pointer (some ⟨B, 0, none⟩), v7, v8, .int .u32 d, .int .u32 nn, x11, x12, x13, x14, x15, x16, x17, x18, x19, x20, x21, x22, x23, x24, x25, x26, x27, x28, x29, x30, x31, x32, x33, x34, x35, x36, x37, x38, x39, x40, x41, x42, x43, x44, x45, x46, x47, x48, x49, x50, x51, x52, x53, x54, x55, x56, x57, x58, x59, x60, x61, x62, x63, x64, x65, x66, x67, x68, x69, x70, x71, x72, x73, x74, x75, x76, x77, x78, x79, x80, x81, x82, x83, x84, x85, x86, x87, x88, x89, x90, x91, x92, x93, x94, x95, x96, x97, x98, x99, x100, x101, x102, x103, x104, x105, x106, x107, x108, x109, x110, x111, x112, x113, x114, x115, x116, x117, x118, x119, x120, x121, x122, x123, x124, x125, x126, x127, x128, x129, x130, x131, x132, x133, x134, x135, x136, x137, x138, x139, x140, x141, x142, x143, x144, x145, x146, x147, x148, x149, x150, x151, x152, x153, x154, x155, x156, x157, x158, x159, x160, x161, x162, x163, x164, x165, x166, x167, x168, x169, x170, x171, x172, x173, x174, x175, x176, x177, x178, x179, x180, x181, x182, x183, x184, x185, x186, x187, x188, x189, x190, x191, x192, x193, x194, x195, x196, x197, x198, x199, x200, x201, x202, x203, x204, x205, x206, x207, x208, x209, x210, x211, x212, x213, x214, x215, x216, x217, x218, x219, x220, x221, x222, x223, x224, x225, x226, x227, x228, x229, x230, x231, x232, x233, x234, x235, x236, x237], []⟩ w := by
  obtain ⟨AL, cL, rfl, rL⟩ := hvl.rd
  have o129 : w.cell? ⟨B, 129, none⟩ = some (.slice AL r.L.length cL) := by
    rw [hB.cell 129, show (rcells r (.slice AL r.L.length cL)).toArray[129]? = (rcells r (.slice AL r.L.length cL))[129]? by simp, rcells_get _ _ _ (by omega), rcell_l]
  have hxl : x0.length + r.L.length ≤ 800 := by rw [hxp, List.length_append] at hx; exact hx
  have HF := Lib.hid (fun (v : Value) (w1 : World) (h1 : Below w0.heap.size w0 w1) (h2 : Blk w1 B 85 (rcells r (.slice AL r.L.length cL)).toArray) (h3 : Own w0.heap.size w1 v xp) (h4 : OwnK w0.heap.size w1 v8 ks) => like24_any post base p c xb wb B w0.heap.size w0.heap.size d nn lw tw Nv Lv (.slice AL r.L.length cL) v v8 o bk ts lv bl ks xp bs ns nb r w1 (hT.keep (Keep.of_below (X := []) h1) (by simp)) (hA.below h1) (hL.below h1) (hN.below h1) ho h2 (hv.below h1) h3 h4 hk hx (fun w' hw' => hpost w' (h1.trans (hw'.mono h1.size))))
  have HR := Lib.hid rL
  have HB := Lib.hid hB
  have HX := Lib.hid hxp
  obtain ⟨RL, hRL⟩ : ∃ RL, RL = rcells r (.slice AL r.L.length cL) := ⟨_, rfl⟩
  rw [← hRL] at HB HF
  obtain ⟨L, hLe⟩ : ∃ L, L = r.L := ⟨_, rfl⟩
  rw [← hLe] at HR HX o129 hxl
  clear hT hA hL hN hv hvl hB hxp hpost rL hRL hLe
  obtain ⟨i0, hi, hz0, hz1, hz2⟩ := info_parts info33
  simp only []
  conv => arg 2; whnf
  go_wp2_with fail
  go_loopw [7, 139] (fun v vi wr => ∃ j : Nat, j ≤ L.length ∧ vi = .int .i64 j ∧ Own w0.heap.size wr v (x0 ++ L.take j) ∧ OwnK w0.heap.size wr v8 ks ∧ Blk wr B 85 RL.toArray ∧ Below w0.heap.size w0 wr) (fun v vi wr => L.length - (intOf vi).toNat)
  case atStart => exact ⟨0, by omega, rfl, by simpa using h7, h8, HB.out, hW⟩
  case round =>
    clear h7 h8 hW o129
    obtain ⟨j, hj, rfl, hO, hK, hBr, hWr⟩ := hrel
    by_cases hlt : j < L.length
    · obtain ⟨g, off, rfl, c0, c1⟩ := (HR.out.below hWr) j L[j] (List.getElem?_eq_getElem hlt)
      have L1 : (j : Int) < (L.length : Int) := by omega
      have L2 : IntKind.i64.wrap ((j : Int) + 1) = ((j + 1 : Nat) : Int) := by rw [IntWalk.i64_in _ (by omega)]; omega
      have hlen : (x0 ++ L.take j).length ≤ 800 := by rw [List.length_append, List.length_take]; omega
      have HTk := Lib.hid (List.take_succ_eq_append_getElem hlt)
      obtain ⟨q, hq⟩ : ∃ q, q = L[j] := ⟨_, rfl⟩
      rw [← hq] at c0 c1 HTk
      clear hq
      go_upto_region 22 with (fail)
      have hBa := (Below.refl _ wr).alloc (Nat.le_refl _) (.cells #[.string q.1, .string q.2] 81)
      have hO1 := hO.below hBa
      have hK1 := hK.below hBa
      have hB1 := hBr.below hBa
      have hW1 := hWr.trans (hBa.mono hWr.size)
      have hbx := Blk.new wr 81 #[.string q.1, .string q.2]
      clear hO hK hBr hWr c0 c1
      generalize wr.alloc (.cells #[.string q.1, .string q.2] 81) = W at *
      generalize wr.heap.size = Bx at *
      have b0 : W.cell? ⟨Bx, 0, none⟩ = some (.string q.1) := hbx.cell 0
      have b1 : W.cell? ⟨Bx, 1, none⟩ = some (.string q.2) := hbx.cell 1
      have hBc := (Below.refl _ W).alloc (Nat.le_refl _) (.cells #[.string q.1, .string q.2] 27)
      have hrow : (W.alloc (.cells #[.string q.1, .string q.2] 27)).ownsRow w0.heap.size 27 2 u7 (x0 ++ L.take j).length (flat (x0 ++ L.take j)) := hO1.below hBc
      have HK2 := Lib.hid (hK1.below hBc)
      have HB2 := Lib.hid (hB1.below hBc)
      have HW2 := Lib.hid (hW1.trans (hBc.mono hW1.size))
      have hsz : w0.heap.size ≤ (W.alloc (.cells #[.string q.1, .string q.2] 27)).heap.size := HW2.out.size
      clear hO1 hK1 hB1 hW1 hbx hBc
      generalize hR : x0 ++ L.take j = R at *
      have HRr := Lib.hid hR
      clear hR
      go_wp2_with (at_builtin; refine wpList_append_own_at _ rfl _ _ 40 rfl w0.heap.size 27 i0 _ 2 32 Try.underlying40 hi hz0 hz1 hz2 zsz_pairs (by decide) _ _ _ rfl hrow ⟨W.heap.size, 0, none⟩ 1 1 [.string q.1, .string q.2] rfl rfl (cell_two_new _ _ _ _) (flat_cell q) (by unfold maxLen; omega) (by omega) hsz ?_; intro v' wa hown' hgrow hnil hat)
      have kk := keep_grown hgrow
      have row : ∀ x ∈ u7.ownBlock.toList, ∃ cs, (W.alloc (.cells #[.string q.1, .string q.2] 27)).heap[x]? = some (.cells cs 27 (0, 0)) := fun x hx => own_cells hrow x (by simpa using hx)
      refine ⟨⟨j + 1, by omega, by go_num, ?_, own_keep HK2.out kk fun x hx e => ?_, HB2.out.keep kk fun hm => ?_, HW2.out.grown hgrow hsz (own_ge hrow)⟩, by simp [intOf]; omega⟩
      · rw [HTk.out, ← List.append_assoc, HRr.out]
        unfold Own
        rw [flat_snoc, List.length_append]
        exact hown'
      · obtain ⟨c1, e1⟩ := row x hx
        obtain ⟨c2, e2⟩ := own_cells HK2.out x e
        rw [e1] at e2; cases e2
      · obtain ⟨c1, e1⟩ := row _ hm
        have h2 := HB2.out
        unfold Blk at h2; rw [h2] at e1; cases e1
    · obtain rfl : j = L.length := by omega
      rw [List.take_length, ← HX.out] at hO
      have HG := Lib.hid (HF.out _ wr hWr hBr hO hK)
      clear HF hO hK hBr hWr
      repeat (first | exact HG.out _ _ _ _ _ _ _ _ _ _ _ _ _ _ _ _ _ _ _ _ _ _ _ _ _ _ _ _ _ _ _ _ _ _ _ _ _ _ _ _ _ _ _ _ _ _ _ _ _ _ _ _ _ _ _ _ _ _ _ _ _ _ _ _ _ _ _ _ _ _ _ _ _ _ _ _ _ _ _ _ _ _ _ _ _ _ _ _ _ _ _ _ _ _ _ _ _ _ _ _ _ _ _ _ _ _ _ _ _ _ _ _ _ _ _ _ _ _ _ _ _ _ _ _ _ _ _ _ _ _ _ _ _ _ _ _ _ _ _ _ _ _ _ _ _ _ _ _ _ _ _ _ _ _ _ _ _ _ _ _ _ _ _ _ _ _ _ _ _ _ _ _ _ _ _ _ _ _ _ _ _ _ _ _ _ _ _ _ _ _ _ _ _ _ _ _ _ _ _ _ _ _ _ _ _ _ _ _ _ _ _ _ _ _ _ _ _ _ _ _ _ _ _ _ _ _ _ _ _ _ _ | go_step)

end Go.Proofs.Ytgldgdpgbfejmaa
/- The law's 'like': what its first loop gathers. -/
namespace Go.Proofs.Ytgldgdpgbfejmaa
open Go.RowKit Go.Lib Go.Conc
set_option linter.unusedVariables false
set_option linter.unusedSimpArgs false
section
variable {base : Nat} {w : World} {ts : List (Option Nat)} {bl : List Nat} {n : NB} {r : RN}
theorem mapK_nos {bl : List Nat} {S : Slots} (h : ∀ i, S i = .no) : ∀ i, mapK bl S i = .no := fun i => by unfold mapK; rw [h i]
theorem fm_none {α : Type} {f : Nat → Option α} (h : ∀ i, f i = none) (n : Nat) : fm f n = [] := by
  induction n with
  | zero => rfl
  | succ n ih => rw [fm_succ, ih, h n]; rfl
theorem NodeIs.full (h : NodeIs base w ts bl n r) : ∃ d nn, NdV base w n.b (pt (owO ts r.ow)) r.bk d nn n.pv n.kv (fm (mapK bl r.S).P 32 ++ r.L) (fm (mapK bl r.S).K 32) ∧ BitsOf d (fun i => ((mapK bl r.S).P i).isSome) ∧ BitsOf nn (fun i => ((mapK bl r.S).K i).isSome) := by
  unfold NodeIs at h
  split at h
  · rename_i hb
    obtain ⟨h0, h1, -⟩ := h
    have e1 : ∀ i, (mapK bl r.S).P i = none := fun i => by unfold Slots.P; rw [mapK_nos h0 i]; rfl
    have e2 : ∀ i, (mapK bl r.S).K i = none := fun i => by unfold Slots.K; rw [mapK_nos h0 i]; rfl
    refine ⟨0, 0, ?_, BitsOf.zero fun j => by rw [e1 j]; rfl, BitsOf.zero fun j => by rw [e2 j]; rfl⟩
    rw [fm_none e1, fm_none e2, hb]
    exact h1
  · rename_i hb
    obtain ⟨h0, d, nn, h1, h2, h3⟩ := h
    have : r.bk = false := by simpa using hb
    exact ⟨d, nn, by rw [h0, List.append_nil, this]; exact h1, h2, h3⟩
theorem NodeIs.pairC (h : NodeIs base w ts bl n r) (i : Nat) (hi : i < 32) : Calls Try.prog 24 #[at0 n.b, .int .i64 i] w (PairPost ((mapK bl r.S).P i) w) := by
  unfold NodeIs at h
  split at h
  · obtain ⟨h0, h1, -⟩ := h
    have e1 : (mapK bl r.S).P i = none := by unfold Slots.P; rw [mapK_nos h0 i]; rfl
    rw [e1]
    exact pair_none (at0 n.b) 0 i w (by decide) (Lib.hid (by simp)) (fun w' hB => data_any _ _ _ _ _ _ _ _ _ _ w' (h1.below hB))
  · exact Inn.pair base n.b i _ _ _ _ w h.2 hi
theorem NodeIs.kidC (h : NodeIs base w ts bl n r) (i : Nat) (hi : i < 32) : Calls Try.prog 25 #[at0 n.b, .int .i64 i] w (KidPost ((mapK bl r.S).K i) w) := by
  unfold NodeIs at h
  split at h
  · obtain ⟨h0, h1, -⟩ := h
    have e1 : (mapK bl r.S).K i = none := by unfold Slots.K; rw [mapK_nos h0 i]; rfl
    rw [e1]
    exact kid_none (at0 n.b) 0 i w (by decide) (Lib.hid (by simp)) (nodes_any _ _ _ _ _ _ _ _ _ _ w h1)
  · exact Inn.kid base n.b i _ _ _ _ w h.2 hi
end
/-- what is gathered of the chunks below c -/
structure LI (w0 : World) (S : Slots) (B : Nat) (RL : List Value) (c : Nat) (v7 v8 : Value) (d nn : Nat) (w : World) : Prop where
  o7 : Own w0.heap.size w v7 (fm S.P c)
  o8 : OwnK w0.heap.size w v8 (fm S.K c)
  bd : BitsOf d (fun i => decide (i < c) && (S.P i).isSome)
  bn : BitsOf nn (fun i => decide (i < c) && (S.K i).isSome)
  blk : Blk w B 85 RL.toArray
  bel : Below w0.heap.size w0 w
section
variable {w0 : World} {S : Slots} {B : Nat} {RL : List Value} {c : Nat} {v7 v8 v' : Value} {d nn : Nat} {w w' : World}
theorem LI.start (h : Blk w B 85 RL.toArray) (hB : Below w0.heap.size w0 w) : LI w0 S B RL 0 (.slice none 0 0) (.slice none 0 0) 0 0 w :=
  ⟨⟨rfl, .inl ⟨rfl, rfl⟩⟩, ⟨rfl, .inl ⟨rfl, rfl⟩⟩, BitsOf.zero fun j => by simp, BitsOf.zero fun j => by simp, h, hB⟩
theorem LI.below (h : LI w0 S B RL c v7 v8 d nn w) (hb : Below w.heap.size w w') : LI w0 S B RL c v7 v8 d nn w' :=
  ⟨h.o7.below hb, h.o8.below hb, h.bd, h.bn, h.blk.below hb, h.bel.trans (hb.mono h.bel.size)⟩
theorem bits_less {d c : Nat} {f : Nat → Bool} (h : BitsOf d (fun i => decide (i < c) && f i)) (hf : f c = false) : BitsOf d (fun i => decide (i < c + 1) && f i) := by
  refine h.same fun j => ?_
  by_cases e : j = c
  · subst e; simp [hf]
  · have : decide (j < c + 1) = decide (j < c) := by rw [decide_eq_decide]; omega
    simp only [this]
theorem bits_more {d c : Nat} {f : Nat → Bool} (h : BitsOf d (fun i => decide (i < c) && f i)) (hc : c < 32) (hf : f c = true) : BitsOf (d ||| onl (c : Int)) (fun i => decide (i < c + 1) && f i) := by
  refine h.with_ hc (fun j hj => ?_) (by simp [hf])
  have : decide (j < c + 1) = decide (j < c) := by rw [decide_eq_decide]; omega
  simp only [this]
theorem LI.no (h : LI w0 S B RL c v7 v8 d nn w) (hs : S c = .no) : LI w0 S B RL (c + 1) v7 v8 d nn w := by
  have e1 : S.P c = none := by unfold Slots.P; rw [hs]; rfl
  have e2 : S.K c = none := by unfold Slots.K; rw [hs]; rfl
  refine ⟨?_, ?_, bits_less h.bd (by rw [e1]; rfl), bits_less h.bn (by rw [e2]; rfl), h.blk, h.bel⟩
  · rw [fm_succ, e1]; simpa using h.o7
  · rw [fm_succ, e2]; simpa using h.o8
theorem LI.pr (h : LI w0 S B RL c v7 v8 d nn w) (hc : c < 32) (q : Pr) (hs : S c = .pr q) (hg : w.grownBy w' v7.ownBlock) (ho : w'.ownsRow w0.heap.size 27 2 v' ((fm S.P c).length + 1) (flat (fm S.P c) ++ [.string q.1, .string q.2])) : LI w0 S B RL (c + 1) v' v8 (d ||| onl (c : Int)) nn w' := by
  have e1 : S.P c = some q := by unfold Slots.P; rw [hs]; rfl
  have e2 : S.K c = none := by unfold Slots.K; rw [hs]; rfl
  have kk := keep_grown hg
  have row : ∀ x ∈ v7.ownBlock.toList, ∃ cs, w.heap[x]? = some (.cells cs 27 (0, 0)) := fun x hx => own_cells h.o7 x (by simpa using hx)
  refine ⟨?_, ?_, bits_more h.bd hc (by rw [e1]; rfl), bits_less h.bn (by rw [e2]; rfl), h.blk.keep kk fun hm => ?_, h.bel.grown hg h.bel.size (own_ge h.o7)⟩
  · rw [fm_succ, e1]
    simp only [Option.toList_some]
    unfold Own
    rw [flat_snoc, List.length_append]
    exact ho
  · rw [fm_succ, e2]
    simp only [Option.toList_none, List.append_nil]
    refine own_keep h.o8 kk fun x hx e => ?_
    obtain ⟨c1, e1⟩ := row x hx
    obtain ⟨c2, e2⟩ := own_cells h.o8 x e
    rw [e1] at e2; cases e2
  · obtain ⟨c1, e1⟩ := row _ hm
    have h2 := h.blk
    unfold Blk at h2; rw [h2] at e1; cases e1
theorem LI.kd (h : LI w0 S B RL c v7 v8 d nn w) (hc : c < 32) (k : Nat) (hs : S c = .kd k) (hg : w.grownBy w' v8.ownBlock) (ho : w'.ownsRow w0.heap.size 39 1 v' ((fm S.K c).length + 1) (kcs (fm S.K c) ++ [at0 k])) : LI w0 S B RL (c + 1) v7 v' d (nn ||| onl (c : Int)) w' := by
  have e1 : S.P c = none := by unfold Slots.P; rw [hs]; rfl
  have e2 : S.K c = some k := by unfold Slots.K; rw [hs]; rfl
  have kk := keep_grown hg
  have row : ∀ x ∈ v8.ownBlock.toList, ∃ cs, w.heap[x]? = some (.cells cs 39 (0, 0)) := fun x hx => own_cells h.o8 x (by simpa using hx)
  refine ⟨?_, ?_, bits_less h.bd (by rw [e1]; rfl), bits_more h.bn hc (by rw [e2]; rfl), h.blk.keep kk fun hm => ?_, h.bel.grown hg h.bel.size (own_ge h.o8)⟩
  · rw [fm_succ, e1]
    simp only [Option.toList_none, List.append_nil]
    refine own_keep h.o7 kk fun x hx e => ?_
    obtain ⟨c1, e1⟩ := row x hx
    obtain ⟨c2, e2⟩ := own_cells h.o7 x e
    rw [e1] at e2; cases e2
  · rw [fm_succ, e2]
    simp only [Option.toList_some]
    unfold OwnK
    rw [show kcs (fm S.K c ++ [k]) = kcs (fm S.K c) ++ [at0 k] by simp [kcs], List.length_append]
    exact ho
  · obtain ⟨c1, e1⟩ := row _ hm
    have h2 := h.blk
    unfold Blk at h2; rw [h2] at e1; cases e1
theorem bits_full {d e : Nat} {f : Nat → Bool} (h : BitsOf d (fun i => decide (i < 32) && f i)) (k : BitsOf e f) : d = e := by
  refine h.ext ⟨k.lt, fun i hi => ?_⟩
  rw [k.bit i hi]; simp [hi]
end
end Go.Proofs.Ytgldgdpgbfejmaa
