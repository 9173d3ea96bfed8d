/- RadixNil: for every pair the law returns true: the nil tree counts as the tree of no pairs. Conditions: none beyond the given statement. -/
import Derived.Test.YtchimfgbdfmegaaRows
import Derived.WalkKit
import Derived.ProofKit
import Derived.OpenShut
import Derived.ShutString
import Derived.ChangeOld
import Derived.Below
import Derived.BigQuiet
import Derived.Deep.RegionHeld3
import Derived.Carry
import Derived.Lib.SmallJoins
import Derived.Test.YtchimfgbdfmegaaHar
namespace Go.Proofs.Ytchimfgbdfmegaa.radixNil
open Go.ChangeShapes Go.WideShapes Go.ChangeAt Go.RowKit Go.Joins Go.Lib
open Go.ChangeMaps (open_string shut_string)
set_option linter.unusedVariables false
set_option linter.unusedSimpArgs false
set_option linter.unnecessarySimpa false
set_option maxRecDepth 100000

theorem own : ownKnob Try.prog.godebug = none := by kernel_rfl
theorem laidOut : laidOutB Try.prog = true := by kernel_rfl
theorem keep2 {w w' : World} {N3 : Nat} {d e : Value} (h : w.cell? ⟨N3, 0, none⟩ = some d ∧ w.cell? ⟨N3, 1, none⟩ = some e) (hb : Below w.heap.size w w') : w'.cell? ⟨N3, 0, none⟩ = some d ∧ w'.cell? ⟨N3, 1, none⟩ = some e := by
  obtain ⟨h4, h5⟩ := h
  have l3 := World.block_lt_of_cell? w _ h4
  exact ⟨(hb.cell (p := ⟨N3, 0, none⟩) l3).trans h4, (hb.cell (p := ⟨N3, 1, none⟩) l3).trans h5⟩
theorem rd_nil (w : World) : Rd w none [] := fun j p h => by simp at h
theorem rd_one {w : World} {N : Nat} {pk pu : ByteArray} (h : Blk w N 45 #[.string pk, .string pu]) : Rd w (some ⟨N, 0, none⟩) [(pk, pu)] := fun j p hj => by
  have hl := (List.getElem?_eq_some_iff.1 hj).1
  simp at hl
  subst hl
  simp at hj
  subst hj
  exact ⟨N, 0, rfl, h.cell 0, h.cell 1⟩
theorem vs_of {t : RX} {ps : List Pr} (hp : prs t = ps) (hv : ∀ p ∈ ps, p.2.size ≤ 40) : VS 40 t := fun x hx => by
  have : toPr x ∈ ps := by rw [← hp]; exact List.mem_map_of_mem hx
  exact hv _ this
theorem tree1 {w : World} {b : Nat} {t : RX} {ps : List Pr} {A : Option Addr} {c : Nat} (h : TreeW w b t) (hp : prs t = ps) (hv : ∀ p ∈ ps, p.2.size ≤ 40) (hn : ps.length ≤ 1000) (hR : Rd w A ps) (hc : ps.length ≤ c) :
    Calls Try.prog 23 #[.pointer (some ⟨b, 0, none⟩), .slice A ps.length c] w fun e w' => e = .returned (.bool true) ∧ Below w.heap.size w w' := by
  subst hp
  exact h.tree_any (vs_of rfl hv) hn A c hR hc
theorem same_nilp {w : World} {b : Nat} {t : RX} {ps : List Pr} (h : TreeW w b t) (hp : prs t = ps) (hv : ∀ p ∈ ps, p.2.size ≤ 40) (hn : ps.length ≤ 1000) :
    Calls Try.prog 31 #[.pointer (some ⟨b, 0, none⟩), .pointer none] w fun e w' => e = .returned (.bool false) ∧ Below w.heap.size w w' := by
  subst hp
  exact same_nil b t w h.rad h.can.few (h.bnd (vs_of rfl hv) hn).sh
set_option maxHeartbeats 8000000 in
theorem walk (x1 y1 : ByteArray) (w : World) :
    Calls Try.prog 9 #[.agg #[.string x1, .string y1]] w fun e w' => e = .returned (.bool true) ∧ Below w.heap.size w w' := by
  have hB0 := (Below.refl _ w).alloc (Nat.le_refl _) (.cells #[.string x1, .string y1] 34)
  have b2 := Blk.new w 34 #[.string x1, .string y1]
  go_enter Try.func9, Try.ntmps9
  go_upto_region 1 with (fail)
  generalize w.alloc (.cells #[.string x1, .string y1] 34) = W at *
  obtain ⟨N3, hN3⟩ : ∃ N3, N3 = w.heap.size := ⟨_, rfl⟩
  rw [← hN3] at b2 ⊢
  have l3 : w.heap.size ≤ N3 := by omega
  clear hN3
  go_wp2_with fail
  refine (awakeR_any _).mono ?_
  rintro e w1 ⟨rfl, hB1⟩
  have c2 := b2.stay hB1
  have hB := hB0.trans (hB1.mono hB0.size)
  have q0 : w1.cell? ⟨N3, 0, none⟩ = some (.string x1) := c2.cell 0
  have q1 : w1.cell? ⟨N3, 1, none⟩ = some (.string y1) := c2.cell 1
  clear b2 hB1 hB0
  have kf := few_any x1 y1 w1
  go_wp2_with fail
  refine kf.mono ?_
  rintro e w2 ⟨rfl, hB2⟩
  have d2 := c2.stay hB2
  have hsz := cut40_size x1
  have hpu := cut40_size y1
  have hB := hB.trans (hB2.mono hB.size)
  generalize cut40 x1 = pk at *
  generalize cut40 y1 = pu at *
  have r0 : w2.cell? ⟨N3, 0, none⟩ = some (.string x1) := d2.cell 0
  have r1 : w2.cell? ⟨N3, 1, none⟩ = some (.string y1) := d2.cell 1
  have f0 := d2.frozen 0
  have f1 := d2.frozen 1
  have d2' : Blk ((w2.setCell ⟨N3, 0, none⟩ (.string pk)).setCell ⟨N3, 1, none⟩ (.string pu)) N3 34 #[.string pk, .string pu] := (d2.set_ 0 (.string pk)).set_ 1 (.string pu)
  have hB' : Below w.heap.size w ((w2.setCell ⟨N3, 0, none⟩ (.string pk)).setCell ⟨N3, 1, none⟩ (.string pu)) := (hB.setCell (p := ⟨N3, 0, none⟩) l3 _).setCell (p := ⟨N3, 1, none⟩) l3 _
  clear kf c2 q0 q1 hB2 d2 hB
  go_upto_region 4 with (fail)
  generalize (w2.setCell ⟨N3, 0, none⟩ (.string pk)).setCell ⟨N3, 1, none⟩ (.string pu) = W3 at *
  have hB := hB'
  have hS : (fun w' : World => w'.cell? ⟨N3, 0, none⟩ = some (.string pk) ∧ w'.cell? ⟨N3, 1, none⟩ = some (.string pu)) W3 := ⟨d2'.cell 0, d2'.cell 1⟩
  obtain ⟨s3, s4⟩ := id hS
  clear d2' hB' r0 r1 f0 f1
  go_wp2_with fail
  refine (get_nil pk W3).mono ?_
  rintro e w4 ⟨rfl, hB4⟩
  have hB := hB.trans (hB4.mono hB.size)
  have hS4 := keep2 hS hB4
  clear s3 s4 hS hB4
  obtain ⟨s3, s4⟩ := id hS4
  go_wp2_with fail
  refine (put_nil (.pointer none) pk pu w4 (.inl rfl) hsz).mono ?_
  rintro e w5 ⟨bn, un, rfl, hTn, hin, hB5⟩
  have hB := hB.trans (hB5.mono hB.size)
  have hS5 := keep2 hS4 hB5
  have hone := one_body hTn.can hin
  have hpn : prs un = [(pk, pu)] := by
    have h1 := prs_put (p := (pk, pu)) nil_can hTn.can hin
    rw [h1]
    rfl
  clear s3 s4 hS4 hB5 hin
  obtain ⟨s3, s4⟩ := id hS5
  have kd := drop_tree bn un (.pointer none) pk w5 (.inl rfl) hTn hsz
  unfold at0 at kd ⊢
  have HONE := Lib.hid hone
  have HPN := Lib.hid hpn
  clear hone hpn
  go_wp2_with fail
  refine kd.mono ?_
  rintro e w6 ⟨bm, um, found, rfl, hfound, -, hTm, hdel, hB6⟩
  obtain rfl : found = true := hfound.2 ⟨pu, (HONE.out _).2 rfl⟩
  have hpm : prs um = [] := by
    rw [prs_drop hTn.can hTm.can hdel, HPN.out]
    simp [dropK]
  have hTn := hTn.below hB6
  have hB := hB.trans (hB6.mono hB.size)
  have hS6 := keep2 hS5 hB6
  have HPM := Lib.hid hpm
  clear s3 s4 hS5 hB6 kd hfound hdel hpm HONE
  obtain ⟨s3, s4⟩ := id hS6
  go_wp2_with fail
  refine (drop_nil (.pointer none) pk w6 (.inl rfl)).mono ?_
  rintro e w7 ⟨b7, rfl, hT7, hB7⟩
  have hTn := hTn.below hB7
  have hTm := hTm.below hB7
  have hB := hB.trans (hB7.mono hB.size)
  have hS7 := keep2 hS6 hB7
  clear s3 s4 hS6 hB7 hT7
  have kv := value_nil w7
  go_upto_region 10 with (refine kv.mono ?_; rintro e w8 ⟨rfl, rfl⟩)
  clear kv
  have hpn := HPN.out
  have hpm := HPM.out
  clear HPN HPM
  obtain ⟨s3, s4⟩ := id hS7
  clear hS7
  go_wp2_with fail
  refine (len_nil _).mono ?_
  rintro e wA ⟨rfl, rfl⟩
  have hX := (Below.refl _ w7).alloc (Nat.le_refl _) (.cells #[.string pk, .string pu] 45)
  have hnew := Blk.new w7 45 #[.string pk, .string pu]
  have hB := hB.alloc hB.size (.cells #[.string pk, .string pu] 45)
  have hTn := hTn.below hX
  have hTm := hTm.below hX
  have k1 := tree1 (A := some ⟨w7.heap.size, 0, none⟩) (c := 1) hTn hpn (by simpa using hpu) (by simp) (rd_one hnew) (by simp)
  simp only [List.length_singleton] at k1
  clear hX hnew
  go_wp2_with fail
  refine k1.mono ?_
  rintro e wC ⟨rfl, hX⟩
  have hB := hB.trans (hX.mono hB.size)
  have hTn := hTn.below hX
  have hTm := hTm.below hX
  have k2 := tree1 (A := none) (c := 0) hTm hpm (by simp) (by simp) (rd_nil _) (by simp)
  simp only [List.length_nil] at k2
  clear hX k1 s3 s4
  go_wp2_with fail
  refine k2.mono ?_
  rintro e wD ⟨rfl, hX⟩
  have hB := hB.trans (hX.mono hB.size)
  have hTn := hTn.below hX
  clear hX k2 hTm
  go_wp2_with fail
  refine (empty_any wD).mono ?_
  rintro e wE ⟨be, rfl, hTe, hX⟩
  have hB := hB.trans (hX.mono hB.size)
  have hTn := hTn.below hX
  have k3 := tree1 (A := none) (c := 0) (ps := []) hTe rfl (by simp) (by simp) (rd_nil _) (by simp)
  simp only [List.length_nil] at k3
  clear hX
  unfold at0
  go_wp2_with fail
  refine k3.mono ?_
  rintro e wF ⟨rfl, hX⟩
  have hB := hB.trans (hX.mono hB.size)
  have hTn := hTn.below hX
  clear hX k3 hTe
  go_wp2_with fail
  refine (label_nil _).mono ?_
  rintro e w' ⟨rfl, rfl⟩
  go_wp2_with fail
  refine (kids_nil _).mono ?_
  rintro e w' ⟨rfl, rfl⟩
  go_wp2_with fail
  refine (owned_nil none _).mono ?_
  rintro e w' ⟨rfl, rfl⟩
  go_wp2_with fail
  refine (shape_nil _).mono ?_
  rintro e w' ⟨rfl, rfl⟩
  go_wp2_with fail
  refine (canonR_nil _).mono ?_
  rintro e w' ⟨rfl, rfl⟩
  go_wp2_with fail
  refine (same_self _).mono ?_
  rintro e w' ⟨rfl, rfl⟩
  have k4 := same_nilp hTn hpn (by simpa using hpu) (by simp)
  go_wp2_with fail
  refine k4.mono ?_
  rintro e wG ⟨rfl, hX⟩
  have hB := hB.trans (hX.mono hB.size)
  clear hX k4 hTn
  go_wp2_with fail
  go_ret
  exact ⟨rfl, hB⟩
set_option maxRecDepth 100000 in
theorem open_pair {H : Type} {enc : TypeId × Value → H} {W : World} {b base : Nat} {spare : Nat → Bool} {held : Bool} {v : Value} {d : DataW H} {p : List MemPlace}
    (hv : Value.okWide Try.prog W .any b 34 v) (h : DataW.Trod enc Try.prog W base spare held 34 v d p) : ∃ k u, v = .agg #[.string k, .string u] ∧ k.size ≤ maxLen := by
  obtain ⟨f0, f1, hu, o0, o1, t0, t1⟩ := fields33
  obtain ⟨cs, rfl, hsz⟩ := Go.WideShapes.okWide_struct hu hv
  have hc : Try.prog.cellsOf 34 = 2 := by kernel_rfl
  have hc9 : Try.prog.cellsOf 9 = 1 := by kernel_rfl
  rw [hc] at hsz
  obtain ⟨x, y, rfl⟩ : ∃ x y, cs = #[x, y] := by
    match cs, hsz with
    | ⟨[x, y]⟩, _ => exact ⟨x, y, rfl⟩
  obtain ⟨fuel, hf⟩ := h
  obtain ⟨y0, y1, n, -, -, g0, g1⟩ := Go.ChangeShapes.trod_struct2 hu hf
  rw [o0, t0, hc9] at g0
  rw [o1, t1, hc9] at g1
  simp [Value.cells] at g0 g1
  obtain ⟨s0, hs0, _, hz⟩ := DataW.trod_string Try.underlying9 g0
  obtain ⟨s1, hs1, _⟩ := DataW.trod_string Try.underlying9 g1
  simp at hs0 hs1
  subst hs0 hs1
  exact ⟨s0, s1, rfl, hz⟩

/-! ### THE ROW's STEP -/
set_option maxRecDepth 100000 in
theorem lifted (os : Os) (started : os.Started) (H : Type) (enc : TypeId × Value → H) :
    ReturnsInHanded {} Try.checked os 9 .any (Rows.radixNilSpec.pre6 enc Try.prog Try.f9 Rows.radixNilRow.domain false) (Rows.radixNilSpec.post enc Try.prog Try.f9 false true false false) := by
  refine returnsInHanded_of_change (C := Try.checked) own started (by kernel_rfl) Try.func9
    (ChangeSpec.witness6 (enc := enc) (C := Try.checked) false ⟨#[], #[.agg #[.string ByteArray.empty, .string ByteArray.empty]], []⟩ 8 (by kernel_rfl) (by kernel_rfl) (by kernel_rfl) (by kernel_rfl)) ?_
  intro W base args ds gs before hval0 hW hcnd _
  have hval : ∀ (j : Nat) t v, Try.f9.params[j]? = some t → args[j]? = some v → Value.okWide Try.prog W .any base t v := hval0
  have hW' := hW
  obtain ⟨p, q, hA0, hV, rfl, hfz, hnd⟩ := hW
  have hA : DataW.TrodAll enc Try.prog W 0 (fun _ => true) true Try.f9.params.toList args.toList ds p := hA0
  rw [Try.params9] at hA hval
  obtain ⟨v1, vs1, d1, ds1, p1, q1, hargs, rfl, rfl, h1, r1⟩ := trodAll_cons hA
  obtain ⟨rfl, rfl, rfl⟩ := trodAll_nil r1
  obtain rfl : args = #[v1] := by cases args; simp_all
  obtain ⟨rfl, rfl⟩ := trodVars_none hV
  have k1 := h1
  have lt1 : ∀ x ∈ p1, x.block < W.heap.size := by obtain ⟨m, hm⟩ := k1; exact DataW.trod_lt m _ _ _ hm
  obtain ⟨x1, y1, rfl, s1⟩ := open_pair (hval 0 34 v1 rfl rfl) h1
  clear hA0 hval0
  refine (walk x1 y1 W).mono fun e W' ⟨he, bel⟩ => ?_
  subst he
  exact ⟨_, rfl, _, _, _, [], _, [], hW', trodAll_mk1 (shut_bool Try.underlying4 _), (trodAll_cons_mk (Below.trod laidOut (by kernel_rfl) (of_decide_eq_true (by kernel_rfl)) k1 bel lt1) trodAll_mk0), rfl, bel.frame _, fun h => by cases h⟩

theorem over : Rows.radixNilRow.holds Try.pinned (OpenSpec.ofChange Rows.radixNilSpec) :=
  OpenClaim.holds_of_wide 9 Try.f9 rfl rfl rfl rfl rfl rfl rfl ⟨rfl, rfl, rfl, rfl, rfl⟩ rfl rfl rfl rfl rfl (by kernel_rfl) Try.func9 (by kernel_rfl)
    (of_decide_eq_true (by kernel_rfl)) (by unfold Func.isWrapper; first | (rw [if_pos (by decide +kernel)]; kernel_rfl) | (rw [if_neg (by decide +kernel)]; exact ⟨rfl, rfl⟩))
    (fun os started H enc _ => lifted os started H enc)

theorem proved : Rows.RadixNilSaid := over
#print axioms proved
end Go.Proofs.Ytchimfgbdfmegaa.radixNil
