/- The changes of a bucket: Put and Drop. -/
import Derived.Test.YtgldgdpgbfejmaaNm
import Derived.Test.YtgldgdpgbfejmaaMQ
namespace Go.Proofs.Ytgldgdpgbfejmaa
open Go.RowKit Go.Lib
set_option linter.unusedVariables false
set_option linter.unusedSimpArgs false
attribute [local irreducible] cnt
theorem isK_lt {xs : List Pr} {k : ByteArray} (h : isK xs k = true) : posK xs k < xs.length := by
  unfold isK at h; simp only [decide_eq_true_eq] at h; exact h.1
theorem put_at (xs : List Pr) (p : Pr) (h : RisesL xs) : putAt xs (posK xs p.1) (isK xs p.1) p = putK xs p := by
  rw [← put_eq xs p h]
  unfold putAt insAt lessK moreK
  cases hk : isK xs p.1 with
  | true => simp [List.set_eq_take_append_cons_drop, isK_lt hk]
  | false => simp
theorem dropK_at (xs : List Pr) (k : ByteArray) (h : RisesL xs) : (if isK xs k = true then xs.eraseIdx (posK xs k) else xs) = dropK xs k := by
  rw [← drop_eq xs k h]
  unfold lessK moreK
  cases hk : isK xs k with
  | true => simp [List.eraseIdx_eq_take_drop_succ]
  | false => simp
theorem own_slice {base : Nat} {w : World} {v : Value} {xs : List Pr} (h : Own base w v xs) : ∃ A c, v = .slice A xs.length c ∧ Rd w A xs := by
  obtain ⟨A, c, e, hr, -⟩ := h.rd
  exact ⟨A, c, e, hr⟩
theorem keep2 {w w' : World} {b N : Nat} {v x y : Value} (h : w.cell? ⟨b, 4, none⟩ = some v ∧ w.cell? ⟨N, 0, none⟩ = some x ∧ w.cell? ⟨N, 1, none⟩ = some y) (hb : Below w.heap.size w w') :
    w'.cell? ⟨b, 4, none⟩ = some v ∧ w'.cell? ⟨N, 0, none⟩ = some x ∧ w'.cell? ⟨N, 1, none⟩ = some y :=
  ⟨(hb.cell (World.block_lt_of_cell? w _ h.1)).trans h.1, (hb.cell (World.block_lt_of_cell? w _ h.2.1)).trans h.2.1, (hb.cell (World.block_lt_of_cell? w _ h.2.2)).trans h.2.2⟩
theorem Moves.ofBelow {b : Nat} {p k : Value} {w w1 : World} (h : Below w.heap.size w w1) : Moves b p k p k w w1 := ⟨.refl _ _, .refl _ _, Keep.of_below h⟩
set_option maxRecDepth 100000 in
set_option maxHeartbeats 4000000 in
theorem put_in (base b : Nat) (p : Pr) (ow tk : Option Nat) (lo l : Bool) (d nn : Nat) (pv kv : Value) (xs : List Pr) (ks : List Nat) (w : World) (h : NdV base w b (pt ow) true d nn pv kv xs ks) (ht : TV w tk l) (ho : TV w ow lo) (hr : RisesL xs) (lx : xs.length ≤ 800) (lk : ks.length ≤ 800) (hbase : base ≤ w.heap.size) :
    Calls Try.prog 22 #[at0 b, pt tk, p.v] w (ChgPost base (ownB ow tk l) b pv kv (newOw tk l) true d nn (putK xs p) ks w) := by
  have hBe := (Below.refl _ w).alloc (Nat.le_refl _) (.cells #[.string p.1, .string p.2] 27)
  have hbx := Blk.new w 27 #[.string p.1, .string p.2]
  have h1 := h.below hBe
  have ht1 := ht.below hBe
  have ho1 := ho.below hBe
  have HFL := Lib.hid h.footLt
  have HP := Lib.hid (put_at xs p hr)
  have HRi := Lib.hid hr
  unfold Pr.v
  clear h ht ho hr
  go_enter Try.func22, Try.ntmps22
  go_upto_region 1 with (fail)
  generalize w.alloc (.cells #[.string p.1, .string p.2] 27) = W at *
  obtain ⟨N, hN⟩ : ∃ N, N = w.heap.size := ⟨_, rfl⟩
  rw [← hN] at hbx ⊢
  have HN := Lib.hid hN
  clear hN
  go_wp2_with fail
  refine (isBucket_any base b (pt ow) true d nn pv kv xs ks W h1).mono ?_
  rintro e w' ⟨rfl, rfl⟩
  go_wp2_with fail
  refine (toChange_any base b ow tk lo l true d nn pv kv xs ks W h1 ht1 ho1 lx lk (Nat.le_trans hbase hBe.size)).mono ?_
  rintro e w1 ⟨b1, pv1, kv1, rfl, h2, hc⟩
  have hbx1 : Blk w1 N 27 #[.string p.1, .string p.2] := hbx.keep hc.keep (by
    split
    · exact fun hm => by have := HFL.out N hm; have := HN.out; omega
    · simp)
  have hbf : N ∉ foot b1 pv1 kv1 := fun hm => by
    rcases hc.foot N hm with ⟨_, e⟩ | e
    · have := HFL.out N e; have := HN.out; omega
    · have := hbx.lt; omega
  have hbxd : Blk w1.drew N 27 #[.string p.1, .string p.2] := hbx1
  have h2d : NdV base w1.drew b1 (pt (newOw tk l)) true d nn pv1 kv1 xs ks := h2.drewN 1
  have hc0 := hc.below hBe
  have hcd : Chg (ownB ow tk l) b pv kv b1 pv1 kv1 w w1.drew := ⟨hc0.place, hc0.new, hc0.foot, hc0.keep.drew⟩
  have hbs : base ≤ w1.drew.heap.size := Nat.le_trans hbase hc0.keep.all.size
  obtain ⟨A, c, rfl, hRd⟩ := own_slice h2d.prs
  have e0 : w1.cell? ⟨b1, 4, none⟩ = some (.slice A xs.length c) := h2.blk.cell 4
  have e1 : w1.cell? ⟨N, 0, none⟩ = some (.string p.1) := hbx1.cell 0
  have e2 : w1.cell? ⟨N, 1, none⟩ = some (.string p.2) := hbx1.cell 1
  clear h1 ht1 ho1 hc hc0 hbx hbx1 h2
  unfold at0
  go_wp2_with fail
  go_region_held3 (fun w' : World => w'.cell? ⟨b1, 4, none⟩ = some (.slice A xs.length c) ∧ w'.cell? ⟨N, 0, none⟩ = some (.string p.1) ∧ w'.cell? ⟨N, 1, none⟩ = some (.string p.2)) (first | exact ⟨e0, e1, e2⟩ | exact keep2 (by assumption) hB | go_keep) (first
    | (go_at_call 60; refine (find_any A c xs p.1 _ hRd (by omega) HRi.out).mono ?_; rintro e w2 ⟨rfl, hB⟩; replace h2d := h2d.below hB; replace hbxd := hbxd.below hB; replace hcd := hcd.moves (Moves.ofBelow hB); replace hbs := Nat.le_trans hbs hB.size))
  have g0 : w2.cell? ⟨b1, 4, none⟩ = some (.slice A xs.length c) := h2d.blk.cell 4
  have g1 : w2.cell? ⟨N, 0, none⟩ = some (.string p.1) := hbxd.cell 0
  have g2 : w2.cell? ⟨N, 1, none⟩ = some (.string p.2) := hbxd.cell 1
  have g0' : w2.drew.cell? ⟨b1, 4, none⟩ = some (.slice A xs.length c) := g0
  have g1' : w2.drew.cell? ⟨N, 0, none⟩ = some (.string p.1) := g1
  have g2' : w2.drew.cell? ⟨N, 1, none⟩ = some (.string p.2) := g2
  have h3d : NdV base w2.drew b1 (pt (newOw tk l)) true d nn (.slice A xs.length c) kv1 xs ks := h2d.drewN 1
  have hcd3 : Chg (ownB ow tk l) b pv kv b1 (.slice A xs.length c) kv1 w w2.drew := ⟨hcd.place, hcd.new, hcd.foot, hcd.keep.drew⟩
  have hbs3 : base ≤ w2.drew.heap.size := hbs
  obtain ⟨r, hr⟩ : ∃ r, r = posK xs p.1 := ⟨_, rfl⟩
  obtain ⟨f, hf⟩ : ∃ f, f = isK xs p.1 := ⟨_, rfl⟩
  have hle : r ≤ xs.length := by rw [hr]; exact posK_le _ _
  have hlt : Hid (f = true → r < xs.length) := Lib.hid (fun e => by rw [hr]; exact isK_lt (hf.symm.trans e))
  rw [← hr, ← hf]
  have HR := Lib.hid hr
  have HFF := Lib.hid hf
  clear hr hf hcd h2d hbs hbxd hRd e0 e1 e2 hB
  have hpl := place_pairs base r f (.slice A xs.length c) xs p w2.drew h3d.prs hle hlt.out (by omega) hbs3
  unfold Pr.v at hpl
  go_wp2_with fail
  go_region_with (first
    | (go_at_call 61; refine hpl.mono ?_; rintro e w3 ⟨v', rfl, hO, hso, hK3⟩; rw [HR.out, HFF.out, HP.out] at hO; have hb3 : Blk w3 b1 98 #[pt (newOw tk l), .bool true, .int .u32 d, .int .u32 nn, .slice A xs.length c, kv1] := h3d.blk.keep hK3 (fun hx => by have := h3d.pne; simp at hx; exact this hx); have k4 := hb3.cell 4; have q4 := hb3.frozen 4; simp only [List.getElem?_toArray, List.getElem?_cons_succ, List.getElem?_cons_zero] at k4; obtain ⟨Av, nv, cv, rfl⟩ := hO.form))
  all_goals
    have h4 := h3d.setP (w' := w3) hK3 hO
    have hm4 : Moves b1 (.slice A xs.length c) kv1 (.slice Av nv cv) kv1 w2.drew (w3.setCell ⟨b1, 4, none⟩ (.slice Av nv cv)) := Moves.setCell ⟨hso, .refl _ _, hK3.sub (by intro y hy; simp only [foot, List.mem_cons, List.mem_append]; exact .inr (.inl hy))⟩ _ _
    have hc4 := hcd3.moves hm4
    go_wp2_with fail
    go_ret
    exact ⟨b1, _, _, rfl, h4, hc4⟩
set_option maxRecDepth 100000 in
set_option maxHeartbeats 4000000 in
theorem drop_in (base b : Nat) (k : ByteArray) (ow tk : Option Nat) (lo l : Bool) (d nn : Nat) (pv kv : Value) (xs : List Pr) (ks : List Nat) (w : World) (h : NdV base w b (pt ow) true d nn pv kv xs ks) (ht : TV w tk l) (ho : TV w ow lo) (hr : RisesL xs) (lx : xs.length ≤ 800) (lk : ks.length ≤ 800) (hbase : base ≤ w.heap.size) :
    Calls Try.prog 23 #[at0 b, pt tk, .string k] w (ChgPost base (ownB ow tk l) b pv kv (newOw tk l) true d nn (dropK xs k) ks w) := by
  have HP := Lib.hid (dropK_at xs k hr)
  have HRi := Lib.hid hr
  clear hr
  go_enter Try.func23, Try.ntmps23
  go_wp2_with fail
  refine (isBucket_any base b (pt ow) true d nn pv kv xs ks w h).mono ?_
  rintro e w' ⟨rfl, rfl⟩
  go_wp2_with fail
  refine (toChange_any base b ow tk lo l true d nn pv kv xs ks w h ht ho lx lk hbase).mono ?_
  rintro e w1 ⟨b1, pv1, kv1, rfl, h2, hc⟩
  obtain ⟨A, c, rfl, hRd⟩ := own_slice h2.prs
  have e0 : w1.cell? ⟨b1, 4, none⟩ = some (.slice A xs.length c) := h2.blk.cell 4
  clear h ht ho
  unfold at0
  go_wp2_with fail
  refine (find_any A c xs k _ hRd (by omega) HRi.out).mono ?_
  rintro e w2 ⟨rfl, hB⟩
  have h3 := h2.below hB
  have hc3 := hc.moves (Moves.ofBelow hB)
  clear h2 hc hRd e0 hB
  have e0 : w2.cell? ⟨b1, 4, none⟩ = some (.slice A xs.length c) := h3.blk.cell 4
  cases hf : isK xs k with
  | false =>
    have HD := Lib.hid (show xs = dropK xs k by rw [← HP.out, hf]; rfl)
    clear hf
    go_wp2_with fail
    go_ret
    rw [← HD.out]
    exact ⟨b1, _, _, rfl, h3, hc3⟩
  | true =>
    have hlt := isK_lt hf
    have HD := Lib.hid (show xs.eraseIdx (posK xs k) = dropK xs k by rw [← HP.out, hf]; rfl)
    clear hf
    obtain ⟨r, hr⟩ : ∃ r, r = posK xs k := ⟨_, rfl⟩
    rw [← hr] at hlt HD ⊢
    clear hr
    have F1 : IntKind.i64.wrap ((r : Int) + 1) = ((r + 1 : Nat) : Int) := by rw [IntWalk.i64_in _ (by omega)]; omega
    go_wp2_with fail
    refine (del_pairs base r (r + 1) xs.length (.slice A xs.length c) _ w2 h3.prs hlt (Lib.hid rfl) (by omega) (flat_one xs)).mono ?_
    rintro e w3 ⟨g, cap, hv, rfl, hO, hK0⟩
    have hK : Keep (Value.slice A xs.length c).ownBlock.toList w2 w3 := by rw [hv]; exact hK0
    rw [flat_del] at hO
    have hO2 : Own base w3 (.slice (some ⟨g, 0, none⟩) (xs.length - 1) cap) (xs.eraseIdx r) := by
      unfold Own
      rw [List.length_eraseIdx_of_lt hlt]
      exact hO
    rw [HD.out] at hO2
    have h4 := h3.setP (w' := w3) hK hO2
    have hm4 : Moves b1 (.slice A xs.length c) kv1 (.slice (some ⟨g, 0, none⟩) (xs.length - 1) cap) kv1 w2 (w3.setCell ⟨b1, 4, none⟩ (.slice (some ⟨g, 0, none⟩) (xs.length - 1) cap)) :=
      Moves.setCell ⟨fun x hx => .inl (by rw [hv]; exact hx), .refl _ _, hK.sub (by intro y hy; simp only [foot, List.mem_cons, List.mem_append]; exact .inr (.inl hy))⟩ _ _
    have hc4 := hc3.moves hm4
    have hb3 : Blk w3 b1 98 #[pt (newOw tk l), .bool true, .int .u32 d, .int .u32 nn, .slice A xs.length c, kv1] := h3.blk.keep hK (fun hx => by have := h3.pne; simp at hx; exact this hx)
    have k4 := hb3.cell 4
    have q4 := hb3.frozen 4
    simp only [List.getElem?_toArray, List.getElem?_cons_succ, List.getElem?_cons_zero] at k4
    clear hO hO2 hK hK0 h3 hc3 hm4 hb3 hv e0 F1
    go_wp2_with fail
    go_ret
    exact ⟨b1, _, _, rfl, h4, hc4⟩
theorem drop_out (base b : Nat) (k : ByteArray) (o tv : Value) (d nn : Nat) (pv kv : Value) (xs : List Pr) (ks : List Nat) (w : World) (h : NdV base w b o false d nn pv kv xs ks) :
    Calls Try.prog 23 #[at0 b, tv, .string k] w fun e w' => e = .returned (at0 b) ∧ w = w' := by
  have hc := isBucket_any base b o false d nn pv kv xs ks w h
  unfold at0 at *
  go_enter Try.func23, Try.ntmps23
  go_wp2_with fail
  refine hc.mono ?_
  rintro e w' ⟨rfl, rfl⟩
  go_wp2_with fail
  go_ret
  exact ⟨rfl, rfl⟩
theorem drop_nil (k : ByteArray) (tv : Value) (w : World) : Calls Try.prog 23 #[.pointer none, tv, .string k] w fun e w' => e = .returned (.pointer none) ∧ w = w' := by
  go_enter Try.func23, Try.ntmps23
  go_wp2_with fail
  refine (isBucket_nil w).mono ?_
  rintro e w' ⟨rfl, rfl⟩
  go_wp2_with fail
  go_ret
  exact ⟨rfl, rfl⟩
set_option maxRecDepth 100000 in
theorem put_out (base b : Nat) (p : Pr) (o tv : Value) (d nn : Nat) (pv kv : Value) (xs : List Pr) (ks : List Nat) (w : World) (h : NdV base w b o false d nn pv kv xs ks) :
    Calls Try.prog 22 #[at0 b, tv, p.v] w fun e w' => e = .returned (at0 b) ∧ Below w.heap.size w w' := by
  have hBe := (Below.refl _ w).alloc (Nat.le_refl _) (.cells #[.string p.1, .string p.2] 27)
  have hc := isBucket_any base b o false d nn pv kv xs ks _ (h.below hBe)
  unfold Pr.v
  unfold at0 at *
  clear h
  go_enter Try.func22, Try.ntmps22
  go_upto_region 1 with (fail)
  generalize w.alloc (.cells #[.string p.1, .string p.2] 27) = W at *
  go_wp2_with fail
  refine hc.mono ?_
  rintro e w' ⟨rfl, rfl⟩
  go_wp2_with fail
  go_ret
  exact ⟨rfl, hBe⟩
set_option maxRecDepth 100000 in
theorem put_nil (p : Pr) (tv : Value) (w : World) : Calls Try.prog 22 #[.pointer none, tv, p.v] w fun e w' => e = .returned (.pointer none) ∧ Below w.heap.size w w' := by
  have hBe := (Below.refl _ w).alloc (Nat.le_refl _) (.cells #[.string p.1, .string p.2] 27)
  have hc := isBucket_nil (w.alloc (.cells #[.string p.1, .string p.2] 27))
  unfold Pr.v
  go_enter Try.func22, Try.ntmps22
  go_upto_region 1 with (fail)
  generalize w.alloc (.cells #[.string p.1, .string p.2] 27) = W at *
  go_wp2_with fail
  refine hc.mono ?_
  rintro e w' ⟨rfl, rfl⟩
  go_wp2_with fail
  go_ret
  exact ⟨rfl, hBe⟩
end Go.Proofs.Ytgldgdpgbfejmaa
