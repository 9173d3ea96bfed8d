/- The changes of a bucket: Put and Drop. -/
import Derived.Test.YtfmbikmpobieoaaMK
import Derived.Test.YtfmbikmpobieoaaMQb
import Derived.Test.YtfmbikmpobieoaaMP
import Derived.Test.YtfmbikmpobieoaaMT
namespace Go.Proofs.Ytfmbikmpobieoaa
open Go.RowKit Go.Lib
set_option linter.unusedVariables false
set_option maxRecDepth 100000
set_option maxRecDepth 100000
set_option linter.unusedSimpArgs false
attribute [local irreducible] cnt
theorem isK_lt {xs : List Pr} {k : ByteArray} (h : isK xs k = true) : posK xs k < xs.length := by
  unfold isK at h; simp only [decide_eq_true_eq] at h; exact h.1
theorem put_at (xs : List Pr) (p : Pr) (h : RisesL xs) : putAt xs (posK xs p.1) (isK xs p.1) p = putK xs p := by
  rw [← put_eq xs p h]
  unfold putAt insAt lessK moreK
  cases hk : isK xs p.1 with
  | true => simp [List.set_eq_take_append_cons_drop, isK_lt hk]
  | false => simp
theorem dropK_at (xs : List Pr) (k : ByteArray) (h : RisesL xs) : (if isK xs k = true then xs.eraseIdx (posK xs k) else xs) = dropK xs k := by
  rw [← drop_eq xs k h]
  unfold lessK moreK
  cases hk : isK xs k with
  | true => simp [List.eraseIdx_eq_take_drop_succ]
  | false => simp
theorem own_slice {base : Nat} {w : World} {v : Value} {xs : List Pr} (h : Own base w v xs) : ∃ A c, v = .slice A xs.length c ∧ Rd w A xs := by
  obtain ⟨A, c, e, hr, -⟩ := h.rd
  exact ⟨A, c, e, hr⟩
theorem keep2 {w w' : World} {b N : Nat} {v x y : Value} (h : w.cell? ⟨b, 4, none⟩ = some v ∧ w.cell? ⟨N, 0, none⟩ = some x ∧ w.cell? ⟨N, 1, none⟩ = some y) (hb : Below w.heap.size w w') :
    w'.cell? ⟨b, 4, none⟩ = some v ∧ w'.cell? ⟨N, 0, none⟩ = some x ∧ w'.cell? ⟨N, 1, none⟩ = some y :=
  ⟨(hb.cell (World.block_lt_of_cell? w _ h.1)).trans h.1, (hb.cell (World.block_lt_of_cell? w _ h.2.1)).trans h.2.1, (hb.cell (World.block_lt_of_cell? w _ h.2.2)).trans h.2.2⟩
theorem Moves.ofBelow {b : Nat} {p k : Value} {w w1 : World} (h : Below w.heap.size w w1) : Moves b p k p k w w1 := ⟨.refl _ _, .refl _ _, Keep.of_below h⟩
set_option maxRecDepth 100000 in
set_option maxHeartbeats 4000000 in
theorem put_in (base b : Nat) (p : Pr) (ow tk : Option Nat) (lo l : Bool) (d nn : Nat) (pv kv : Value) (xs : List Pr) (ks : List Nat) (w : World) (h : NdV base w b (pt ow) true d nn pv kv xs ks) (ht : TV w tk l) (ho : TV w ow lo) (hr : RisesL xs) (lx : xs.length ≤ 800) (lk : ks.length ≤ 800) (hbase : base ≤ w.heap.size) :
    Calls Try.prog 58 #[at0 b, pt tk, p.v] w (ChgPost base (ownB ow tk l) b pv kv (newOw tk l) true d nn (putK xs p) ks w) := by
  have hBe := (Below.refl _ w).alloc (Nat.le_refl _) (.cells #[.string p.1, .string p.2] 32)
  have hbx := Blk.new w 32 #[.string p.1, .string p.2]
  have h1 := h.below hBe
  have ht1 := ht.below hBe
  have ho1 := ho.below hBe
  have HFL := Lib.hid h.footLt
  have HP := Lib.hid (put_at xs p hr)
  have HRi := Lib.hid hr
  unfold Pr.v
  clear h ht ho hr
  go_enter Try.func58, Try.ntmps58
  go_upto_region 1 with (fail)
  generalize w.alloc (.cells #[.string p.1, .string p.2] 32) = W at *
  obtain ⟨N, hN⟩ : ∃ N, N = w.heap.size := ⟨_, rfl⟩
  rw [← hN] at hbx ⊢
  have HN := Lib.hid hN
  clear hN
  go_wp2_with fail
  refine (isBucket_any base b (pt ow) true d nn pv kv xs ks W h1).mono ?_
  rintro e w' ⟨rfl, rfl⟩
  go_wp2_with fail
  refine (toChange_any base b ow tk lo l true d nn pv kv xs ks W h1 ht1 ho1 lx lk (Nat.le_trans hbase hBe.size)).mono ?_
  rintro e w1 ⟨b1, pv1, kv1, rfl, h2, hc⟩
  have hbx1 : Blk w1 N 32 #[.string p.1, .string p.2] := hbx.keep hc.keep (by
    split
    · exact fun hm => by have := HFL.out N hm; have := HN.out; omega
    · simp)
  have hbf : N ∉ foot b1 pv1 kv1 := fun hm => by
    rcases hc.foot N hm with ⟨_, e⟩ | e
    · have := HFL.out N e; have := HN.out; omega
    · have := hbx.lt; omega
  have hbxd : Blk w1.drew N 32 #[.string p.1, .string p.2] := hbx1
  have h2d : NdV base w1.drew b1 (pt (newOw tk l)) true d nn pv1 kv1 xs ks := h2.drewN 1
  have hc0 := hc.below hBe
  have hcd : Chg (ownB ow tk l) b pv kv b1 pv1 kv1 w w1.drew := ⟨hc0.place, hc0.new, hc0.foot, hc0.keep.drew⟩
  have hbs : base ≤ w1.drew.heap.size := Nat.le_trans hbase hc0.keep.all.size
  obtain ⟨A, c, rfl, hRd⟩ := own_slice h2d.prs
  have e0 : w1.cell? ⟨b1, 4, none⟩ = some (.slice A xs.length c) := h2.blk.cell 4
  have e1 : w1.cell? ⟨N, 0, none⟩ = some (.string p.1) := hbx1.cell 0
  have e2 : w1.cell? ⟨N, 1, none⟩ = some (.string p.2) := hbx1.cell 1
  clear h1 ht1 ho1 hc hc0 hbx hbx1 h2
  unfold at0
  go_wp2_with fail
  go_region_held3 (fun w' : World => w'.cell? ⟨b1, 4, none⟩ = some (.slice A xs.length c) ∧ w'.cell? ⟨N, 0, none⟩ = some (.string p.1) ∧ w'.cell? ⟨N, 1, none⟩ = some (.string p.2)) (first | exact ⟨e0, e1, e2⟩ | exact keep2 (by assumption) hB | go_keep) (first
    | (go_at_call 55; refine (find_any A c xs p.1 _ hRd (by omega) HRi.out).mono ?_; rintro e w2 ⟨rfl, hB⟩; replace h2d := h2d.below hB; replace hbxd := hbxd.below hB; replace hcd := hcd.moves (Moves.ofBelow hB); replace hbs := Nat.le_trans hbs hB.size))
  have g0 : w2.cell? ⟨b1, 4, none⟩ = some (.slice A xs.length c) := h2d.blk.cell 4
  have g1 : w2.cell? ⟨N, 0, none⟩ = some (.string p.1) := hbxd.cell 0
  have g2 : w2.cell? ⟨N, 1, none⟩ = some (.string p.2) := hbxd.cell 1
  have g0' : w2.drew.cell? ⟨b1, 4, none⟩ = some (.slice A xs.length c) := g0
  have g1' : w2.drew.cell? ⟨N, 0, none⟩ = some (.string p.1) := g1
  have g2' : w2.drew.cell? ⟨N, 1, none⟩ = some (.string p.2) := g2
  have h3d : NdV base w2.drew b1 (pt (newOw tk l)) true d nn (.slice A xs.length c) kv1 xs ks := h2d.drewN 1
  have hcd3 : Chg (ownB ow tk l) b pv kv b1 (.slice A xs.length c) kv1 w w2.drew := ⟨hcd.place, hcd.new, hcd.foot, hcd.keep.drew⟩
  have hbs3 : base ≤ w2.drew.heap.size := hbs
  obtain ⟨r, hr⟩ : ∃ r, r = posK xs p.1 := ⟨_, rfl⟩
  obtain ⟨f, hf⟩ : ∃ f, f = isK xs p.1 := ⟨_, rfl⟩
  have hle : r ≤ xs.length := by rw [hr]; exact posK_le _ _
  have hlt : Hid (f = true → r < xs.length) := Lib.hid (fun e => by rw [hr]; exact isK_lt (hf.symm.trans e))
  rw [← hr, ← hf]
  have HR := Lib.hid hr
  have HFF := Lib.hid hf
  clear hr hf hcd h2d hbs hbxd hRd e0 e1 e2 hB
  have hpl := place_pairs base r f (.slice A xs.length c) xs p w2.drew h3d.prs hle hlt.out (by omega) hbs3
  unfold Pr.v at hpl
  go_wp2_with fail
  go_region_with (first
    | (go_at_call 74; refine hpl.mono ?_; rintro e w3 ⟨v', rfl, hO, hso, hK3⟩; rw [HR.out, HFF.out, HP.out] at hO; have hb3 : Blk w3 b1 63 #[pt (newOw tk l), .bool true, .int .u32 d, .int .u32 nn, .slice A xs.length c, kv1] := h3d.blk.keep hK3 (fun hx => by have := h3d.pne; simp at hx; exact this hx); have k4 := hb3.cell 4; have q4 := hb3.frozen 4; simp only [List.getElem?_toArray, List.getElem?_cons_succ, List.getElem?_cons_zero] at k4; obtain ⟨Av, nv, cv, rfl⟩ := hO.form))
  all_goals
    have h4 := h3d.setP (w' := w3) hK3 hO
    have hm4 : Moves b1 (.slice A xs.length c) kv1 (.slice Av nv cv) kv1 w2.drew (w3.setCell ⟨b1, 4, none⟩ (.slice Av nv cv)) := Moves.setCell ⟨hso, .refl _ _, hK3.sub (by intro y hy; simp only [foot, List.mem_cons, List.mem_append]; exact .inr (.inl hy))⟩ _ _
    have hc4 := hcd3.moves hm4
    go_wp2_with fail
    go_ret
    exact ⟨b1, _, _, rfl, h4, hc4⟩
set_option maxRecDepth 100000 in
theorem put_out (base b : Nat) (p : Pr) (o tv : Value) (d nn : Nat) (pv kv : Value) (xs : List Pr) (ks : List Nat) (w : World) (h : NdV base w b o false d nn pv kv xs ks) :
    Calls Try.prog 58 #[at0 b, tv, p.v] w fun e w' => e = .returned (at0 b) ∧ Below w.heap.size w w' := by
  have hBe := (Below.refl _ w).alloc (Nat.le_refl _) (.cells #[.string p.1, .string p.2] 32)
  have hc := isBucket_any base b o false d nn pv kv xs ks _ (h.below hBe)
  unfold Pr.v
  unfold at0 at *
  clear h
  go_enter Try.func58, Try.ntmps58
  go_upto_region 1 with (fail)
  generalize w.alloc (.cells #[.string p.1, .string p.2] 32) = W at *
  go_wp2_with fail
  refine hc.mono ?_
  rintro e w' ⟨rfl, rfl⟩
  go_wp2_with fail
  go_ret
  exact ⟨rfl, hBe⟩
set_option maxRecDepth 100000 in
theorem put_nil (p : Pr) (tv : Value) (w : World) : Calls Try.prog 58 #[.pointer none, tv, p.v] w fun e w' => e = .returned (.pointer none) ∧ Below w.heap.size w w' := by
  have hBe := (Below.refl _ w).alloc (Nat.le_refl _) (.cells #[.string p.1, .string p.2] 32)
  have hc := isBucket_nil (w.alloc (.cells #[.string p.1, .string p.2] 32))
  unfold Pr.v
  go_enter Try.func58, Try.ntmps58
  go_upto_region 1 with (fail)
  generalize w.alloc (.cells #[.string p.1, .string p.2] 32) = W at *
  go_wp2_with fail
  refine hc.mono ?_
  rintro e w' ⟨rfl, rfl⟩
  go_wp2_with fail
  go_ret
  exact ⟨rfl, hBe⟩
end Go.Proofs.Ytfmbikmpobieoaa
/- Nodes by what their chunks have. -/
namespace Go.Proofs.Ytfmbikmpobieoaa
open Go.RowKit Go.Lib
set_option linter.unusedVariables false
set_option maxRecDepth 100000
set_option maxRecDepth 100000
set_option linter.unusedSimpArgs false
def Slots.P (S : Slots) : Nat → Option Pr := fun i => (S i).p?
def Slots.K (S : Slots) : Nat → Option Nat := fun i => (S i).k?
theorem Slots.P_put (S : Slots) (i : Nat) (x : Sl) : (S.put i x).P i = x.p? ∧ ∀ j, j ≠ i → (S.put i x).P j = S.P j := by
  unfold Slots.P Slots.put
  exact ⟨by simp, fun j hj => by simp [hj]⟩
theorem Slots.K_put (S : Slots) (i : Nat) (x : Sl) : (S.put i x).K i = x.k? ∧ ∀ j, j ≠ i → (S.put i x).K j = S.K j := by
  unfold Slots.K Slots.put
  exact ⟨by simp, fun j hj => by simp [hj]⟩
section
variable {α : Type} {d i : Nat} {f g : Nat → Option α}
theorem set_bits (h : BitsOf d (fun i => (f i).isSome)) (hi : i < 32) (hg : ∀ j, j ≠ i → g j = f j) (b : α) (hb : g i = some b) : BitsOf (d ||| onl (i : Int)) (fun i => (g i).isSome) :=
  h.with_ hi (fun j hj => by rw [hg j hj]) (by rw [hb]; rfl)
theorem clr_bits (h : BitsOf d (fun i => (f i).isSome)) (hi : i < 32) (hg : ∀ j, j ≠ i → g j = f j) (hb : g i = none) : BitsOf (clrB d i) (fun i => (g i).isSome) := by
  unfold clrB
  cases ht : d.testBit i with
  | true => rw [if_pos rfl]; exact h.wo_ hi (fun j hj => by rw [hg j hj]) (by rw [hb]; rfl)
  | false =>
    rw [if_neg (by decide)]
    refine h.same fun j => ?_
    by_cases e : j = i
    · subst e
      have := h.bit j hi
      rw [ht] at this
      rw [hb, ← this]; rfl
    · rw [hg j e]
theorem set_list (h : BitsOf d (fun i => (f i).isSome)) (hi : i < 32) (hg : ∀ j, j ≠ i → g j = f j) (b : α) (hb : g i = some b) : setL d i b (fm f 32) = fm g 32 := by
  unfold setL
  rw [cnt_fm f h i (by omega), h.bit i hi, fm_put f g i b hi hg hb]
theorem clr_list (h : BitsOf d (fun i => (f i).isSome)) (hi : i < 32) (hg : ∀ j, j ≠ i → g j = f j) (hb : g i = none) : clrL d i (fm f 32) = fm g 32 := by
  unfold clrL
  rw [cnt_fm f h i (by omega), h.bit i hi, fm_erase f g i hi hg hb]
end
/-- an inner node -/
def Inn (base : Nat) (w : World) (b : Nat) (ow : Option Nat) (S : Slots) (pv kv : Value) : Prop :=
  ∃ d nn, NdV base w b (pt ow) false d nn pv kv (fm S.P 32) (fm S.K 32) ∧ BitsOf d (fun i => (S.P i).isSome) ∧ BitsOf nn (fun i => (S.K i).isSome)
/-- a bucket -/
def Bck (base : Nat) (w : World) (b : Nat) (ow : Option Nat) (L : List Pr) (pv kv : Value) : Prop := NdV base w b (pt ow) true 0 0 pv kv L [] ∧ RisesL L
def InnPost (base : Nat) (own : Bool) (b : Nat) (pv kv : Value) (ow : Option Nat) (S : Slots) (w : World) (e : Ending) (w' : World) : Prop :=
  ∃ b1 pv1 kv1, e = .returned (at0 b1) ∧ Inn base w' b1 ow S pv1 kv1 ∧ Chg own b pv kv b1 pv1 kv1 w w'
def BckPost (base : Nat) (own : Bool) (b : Nat) (pv kv : Value) (ow : Option Nat) (L : List Pr) (w : World) (e : Ending) (w' : World) : Prop :=
  ∃ b1 pv1 kv1, e = .returned (at0 b1) ∧ Bck base w' b1 ow L pv1 kv1 ∧ Chg own b pv kv b1 pv1 kv1 w w'
theorem fits_of {d nn : Nat} {S : Slots} (h1 : BitsOf d (fun i => (S.P i).isSome)) (h2 : BitsOf nn (fun i => (S.K i).isSome)) (i : Nat) (hi : i < 32) : Fits d nn (fm S.P 32) (fm S.K 32) i where
  hd := h1.lt
  hn := h2.lt
  rd := fun e => by rw [cnt_fm _ h1 i (by omega)]; exact fm_lt _ i hi (by rw [h1.bit i hi] at e; exact e)
  rn := fun e => by rw [cnt_fm _ h2 i (by omega)]; exact fm_lt _ i hi (by rw [h2.bit i hi] at e; exact e)
  ld := by rw [cnt_fm _ h1 i (by omega)]; exact fm_le _ i hi
  ln := by rw [cnt_fm _ h2 i (by omega)]; exact fm_le _ i hi
  lx := by have := fm_len_le S.P 32; omega
  lk := by have := fm_len_le S.K 32; omega
section
variable (base b i : Nat) (ow tk : Option Nat) (lo l : Bool) (S : Slots) (pv kv : Value) (w : World) (h : Inn base w b ow S pv kv) (ht : TV w tk l) (ho : TV w ow lo) (hi : i < 32) (hbase : base ≤ w.heap.size)
include h ht ho hi hbase
theorem Inn.setPair (p : Pr) : Calls Try.prog 62 #[at0 b, pt tk, .int .i64 i, p.v] w (InnPost base (ownB ow tk l) b pv kv (newOw tk l) (S.put i (.pr p)) w) := by
  obtain ⟨d, nn, h, h1, h2⟩ := h
  refine (setPair_in base b i p ow tk lo l d nn pv kv _ _ w h ht ho hi (fits_of h1 h2 i hi) hbase).mono ?_
  rintro e w' ⟨b1, pv1, kv1, rfl, h3, hc⟩
  have eP := S.P_put i (.pr p)
  have eK := S.K_put i (.pr p)
  rw [set_list h1 hi eP.2 p eP.1, clr_list h2 hi eK.2 eK.1] at h3
  exact ⟨b1, pv1, kv1, rfl, ⟨_, _, h3, set_bits h1 hi eP.2 p eP.1, clr_bits h2 hi eK.2 eK.1⟩, hc⟩
theorem Inn.setKid (k : Nat) : Calls Try.prog 60 #[at0 b, pt tk, .int .i64 i, at0 k] w (InnPost base (ownB ow tk l) b pv kv (newOw tk l) (S.put i (.kd k)) w) := by
  obtain ⟨d, nn, h, h1, h2⟩ := h
  refine (setKid_in base b i k ow tk lo l d nn pv kv _ _ w h ht ho hi (fits_of h1 h2 i hi) hbase).mono ?_
  rintro e w' ⟨b1, pv1, kv1, rfl, h3, hc⟩
  have eP := S.P_put i (.kd k)
  have eK := S.K_put i (.kd k)
  rw [set_list h2 hi eK.2 k eK.1, clr_list h1 hi eP.2 eP.1] at h3
  exact ⟨b1, pv1, kv1, rfl, ⟨_, _, h3, clr_bits h1 hi eP.2 eP.1, set_bits h2 hi eK.2 k eK.1⟩, hc⟩
theorem Inn.clear : Calls Try.prog 44 #[at0 b, pt tk, .int .i64 i] w (InnPost base (ownB ow tk l) b pv kv (newOw tk l) (S.put i .no) w) := by
  obtain ⟨d, nn, h, h1, h2⟩ := h
  refine (clear_in base b i ow tk lo l d nn pv kv _ _ w h ht ho hi (fits_of h1 h2 i hi) hbase).mono ?_
  rintro e w' ⟨b1, pv1, kv1, rfl, h3, hc⟩
  have eP := S.P_put i .no
  have eK := S.K_put i .no
  rw [clr_list h2 hi eK.2 eK.1, clr_list h1 hi eP.2 eP.1] at h3
  exact ⟨b1, pv1, kv1, rfl, ⟨_, _, h3, clr_bits h1 hi eP.2 eP.1, clr_bits h2 hi eK.2 eK.1⟩, hc⟩
theorem Inn.setKidNil : Calls Try.prog 60 #[at0 b, pt tk, .int .i64 i, .pointer none] w (InnPost base (ownB ow tk l) b pv kv (newOw tk l) (S.put i .no) w) := by
  refine setKid_clear _ _ _ w _ ((Inn.clear base b i ow tk lo l S pv kv w h ht ho hi hbase).mono ?_)
  rintro e w' ⟨b1, pv1, kv1, rfl, h3, hc⟩
  exact ⟨_, rfl, b1, pv1, kv1, rfl, h3, hc⟩
end
section
variable {base : Nat} {w w' : World} {b : Nat} {ow : Option Nat} {S : Slots} {pv kv : Value}
theorem Inn.keep (h : Inn base w b ow S pv kv) {X : List Nat} (hk : Keep X w w') (hX : ∀ x ∈ foot b pv kv, x ∉ X) : Inn base w' b ow S pv kv := by
  obtain ⟨d, nn, h, h1, h2⟩ := h
  exact ⟨d, nn, h.keep hk hX, h1, h2⟩
theorem Inn.below (h : Inn base w b ow S pv kv) (hb : Below w.heap.size w w') : Inn base w' b ow S pv kv := h.keep (Keep.of_below (X := []) hb) (by simp)
theorem Inn.drewN (h : Inn base w b ow S pv kv) (n : Nat) : Inn base (w.drewN n) b ow S pv kv := by
  obtain ⟨d, nn, h, h1, h2⟩ := h
  exact ⟨d, nn, h.drewN n, h1, h2⟩
theorem Inn.footLt (h : Inn base w b ow S pv kv) : ∀ x ∈ foot b pv kv, x < w.heap.size := by
  obtain ⟨d, nn, h, h1, h2⟩ := h
  exact h.footLt
theorem Inn.footGe (h : Inn base w b ow S pv kv) : ∀ x ∈ foot b pv kv, base ≤ x := by
  obtain ⟨d, nn, h, h1, h2⟩ := h
  exact h.footGe
theorem Inn.noTok (h : Inn base w b ow S pv kv) : ∀ x ∈ foot b pv kv, ∀ cs, ¬ Blk w x 110 cs := by
  obtain ⟨d, nn, h, h1, h2⟩ := h
  exact h.noTok
end
theorem Inn.pair (base b i : Nat) (ow : Option Nat) (S : Slots) (pv kv : Value) (w : World) (h : Inn base w b ow S pv kv) (hi : i < 32) : Calls Try.prog 35 #[at0 b, .int .i64 i] w (PairPost (S.P i) w) := by
  obtain ⟨d, nn, h, h1, h2⟩ := h
  have hf := fits_of h1 h2 i hi
  cases hp : S.P i with
  | none =>
    have hb : d.testBit i = false := by rw [h1.bit i hi, hp]; rfl
    exact pair_none (at0 b) d i w h1.lt (Lib.hid (by rw [has_bit d i hi]; exact hb)) (fun w' hB => data_any _ _ _ _ _ _ _ _ _ _ w' (h.below hB))
  | some p =>
    have hb : d.testBit i = true := by rw [h1.bit i hi, hp]; rfl
    have hc := pair_some base b (pt ow) false d nn pv kv _ _ w h i hi h1.lt (Lib.hid hb) (hf.rd hb) hf.lx
    have e : pat (fm S.P 32) (cnt i d) = p := by
      rw [cnt_fm _ h1 i (by omega)]
      have := fm_at S.P i p hi hp
      unfold pat
      rw [this]; rfl
    rw [e] at hc
    exact hc
theorem Inn.kid (base b i : Nat) (ow : Option Nat) (S : Slots) (pv kv : Value) (w : World) (h : Inn base w b ow S pv kv) (hi : i < 32) : Calls Try.prog 13 #[at0 b, .int .i64 i] w (KidPost (S.K i) w) := by
  obtain ⟨d, nn, h, h1, h2⟩ := h
  have hf := fits_of h1 h2 i hi
  cases hp : S.K i with
  | none =>
    have hb : nn.testBit i = false := by rw [h2.bit i hi, hp]; rfl
    exact kid_none (at0 b) nn i w h2.lt (Lib.hid (by rw [has_bit nn i hi]; exact hb)) (nodes_any _ _ _ _ _ _ _ _ _ _ w h)
  | some k =>
    have hb : nn.testBit i = true := by rw [h2.bit i hi, hp]; rfl
    refine kid_some base b (pt ow) false d nn pv kv _ _ w h i k hi h2.lt (Lib.hid hb) ?_ hf.lk
    rw [cnt_fm _ h2 i (by omega)]
    exact fm_at S.K i k hi hp
theorem Inn.len (base b : Nat) (ow : Option Nat) (S : Slots) (pv kv : Value) (w : World) (h : Inn base w b ow S pv kv) : Calls Try.prog 9 #[at0 b] w fun e w' => e = .returned (.int .i64 ((fm S.P 32).length + (fm S.K 32).length : Nat)) ∧ ∃ k, w' = w.drewN k := by
  obtain ⟨d, nn, h, h1, h2⟩ := h
  have hf := fits_of h1 h2 0 (by omega)
  exact len_any base b _ _ _ _ _ _ _ _ w h hf.lx hf.lk
theorem Inn.owned (base b : Nat) (ow tk : Option Nat) (lo l : Bool) (S : Slots) (pv kv : Value) (w : World) (h : Inn base w b ow S pv kv) (ht : TV w tk l) (ho : TV w ow lo) : Calls Try.prog 38 #[at0 b, pt tk] w fun e w' => e = .returned (.bool (ownB ow tk l)) ∧ w = w' := by
  obtain ⟨d, nn, h, h1, h2⟩ := h
  exact owned_any base b ow tk lo l false d nn pv kv _ _ w h ht ho
theorem Inn.new (w : World) : Calls Try.prog 19 #[] w fun e w' => ∃ b, e = .returned (at0 b) ∧ w.heap.size ≤ b ∧ Inn w.heap.size w' b none (fun _ => .no) (.slice none 0 0) (.slice none 0 0) ∧ Below w.heap.size w w' := by
  refine (inner_any w).mono ?_
  rintro e w' ⟨rfl, h, hB⟩
  have e1 : fm (Slots.P fun _ => .no) 32 = [] := by decide
  have e2 : fm (Slots.K fun _ => .no) 32 = [] := by decide
  exact ⟨_, rfl, Nat.le_refl _, ⟨0, 0, by rw [e1, e2]; exact h, BitsOf.zero (fun _ => rfl), BitsOf.zero (fun _ => rfl)⟩, hB⟩
end Go.Proofs.Ytfmbikmpobieoaa
/- Pointers to nodes compared; the example of layer 5 returns true. -/
namespace Go.Proofs.Ytfmbikmpobieoaa
open Go.RowKit Go.Lib Go.Conc
set_option linter.unusedVariables false
set_option maxRecDepth 100000
set_option maxRecDepth 100000
set_option linter.unusedSimpArgs false
theorem info98 : ∃ j, Try.prog.info? 63 = some j ∧ j.size ≠ 0 := by
  have h : (Try.prog.info? 63).map (·.size) = some 6 := by kernel_rfl
  obtain ⟨i, hi, hb⟩ := Option.map_eq_some_iff.1 h
  exact ⟨i, hi, by omega⟩
theorem eql_node_same (b : Nat) (w : World) : (binOp .eql 29 (at0 b) (at0 b)).run Try.prog w = .ok (.bool true) w := by
  obtain ⟨j, hj, hs⟩ := info98
  exact run_eql_ptr_same (P := Try.prog) (w := w) ⟨b, 0, none⟩ Try.underlying29 hj
theorem eql_node_other {a b : Nat} {ca cb : Array Value} {ta tb : TypeId} (w : World) (hne : a ≠ b) (ha : Blk w a ta ca) (hb : Blk w b tb cb) :
    (binOp .eql 29 (at0 a) (at0 b)).run Try.prog w = .ok (.bool false) w := by
  obtain ⟨j, hj, hs⟩ := info98
  exact run_eql_ptr_other w Try.underlying29 hj hs (fun e => hne (congrArg Addr.block e)) ha hb
theorem neq_node_other {a b : Nat} {ca cb : Array Value} {ta tb : TypeId} (w : World) (hne : a ≠ b) (ha : Blk w a ta ca) (hb : Blk w b tb cb) :
    (binOp .neq 29 (at0 a) (at0 b)).run Try.prog w = .ok (.bool true) w := by
  obtain ⟨j, hj, hs⟩ := info98
  unfold at0
  have h : ∀ d : Nat, (Op.equalIn (d + 1) 29 (.pointer (some ⟨a, 0, none⟩)) (.pointer (some ⟨b, 0, none⟩))).run Try.prog w = .ok false w := fun d => by
    simp [Op.equalIn, run_underlying Try.underlying29, sizeOf, typeInfo, hj, hs, run_sameAddr_other w (a := ⟨a, 0, none⟩) (b := ⟨b, 0, none⟩) (fun e => hne (congrArg Addr.block e)) ha hb]
  simp only [binOp]
  simp [Op.equal, Op.maxDepth, h 9999]
theorem neq_node_same (a : Nat) (w : World) : (binOp .neq 29 (at0 a) (at0 a)).run Try.prog w = .ok (.bool false) w := by
  obtain ⟨j, hj, -⟩ := info98
  unfold at0
  have h : ∀ d : Nat, (Op.equalIn (d + 1) 29 (.pointer (some ⟨a, 0, none⟩)) (.pointer (some ⟨a, 0, none⟩))).run Try.prog w = .ok true w := fun d => by
    simp [Op.equalIn, run_underlying Try.underlying29, sizeOf, typeInfo, hj, run_sameAddr_same]
  simp only [binOp]
  simp [Op.equal, Op.maxDepth, h 9999]
theorem Inn.blk {base : Nat} {w : World} {b : Nat} {ow : Option Nat} {S : Slots} {pv kv : Value} (h : Inn base w b ow S pv kv) : ∃ cs, Blk w b 63 cs := by
  obtain ⟨d, nn, h, -, -⟩ := h
  exact ⟨_, h.blk⟩
theorem Inn.data (base b : Nat) (ow : Option Nat) (S : Slots) (pv kv : Value) (w : World) (h : Inn base w b ow S pv kv) (d : Nat) (hd : BitsOf d (fun i => (S.P i).isSome)) : Calls Try.prog 11 #[at0 b] w fun e w' => e = .returned (.int .u32 d) ∧ w = w' := by
  obtain ⟨d', nn, h, h1, h2⟩ := h
  obtain rfl := h1.ext hd
  exact data_any _ _ _ _ _ _ _ _ _ _ w h
theorem Chg.keepNew {b : Nat} {pv kv : Value} {b1 : Nat} {pv1 kv1 : Value} {w w' : World} (h : Chg false b pv kv b1 pv1 kv1 w w') : Below w.heap.size w w' := by
  have := h.keep
  rw [if_neg (by decide)] at this
  exact this.below (Nat.le_refl _) (by simp)
end Go.Proofs.Ytfmbikmpobieoaa
/- Opening a pair that was handed in; a pair put into a rising list. -/
namespace Go.Proofs.Ytfmbikmpobieoaa
open Go.RowKit Go.Lib
set_option linter.unusedVariables false
set_option maxRecDepth 100000
set_option maxRecDepth 100000
set_option linter.unusedSimpArgs false
theorem put_rises {xs : List Pr} (p : Pr) (h : RisesL xs) : RisesL (putK xs p) :=
  ins_rises p _ (drop_rises xs p.1 h) (fun x hx => ((drop_mem _ _ _).1 hx).2)
set_option maxRecDepth 100000 in
theorem open_pair {H : Type} {enc : TypeId × Value → H} {W : World} {b base : Nat} {spare : Nat → Bool} {held : Bool} {v : Value} {d : DataW H} {p : List MemPlace}
    (hv : Value.okWide Try.prog W .any b 32 v) (h : DataW.Trod enc Try.prog W base spare held 32 v d p) : ∃ k u, v = .agg #[.string k, .string u] ∧ k.size ≤ maxLen := by
  obtain ⟨f0, f1, hu, o0, o1, t0, t1⟩ := fields33
  obtain ⟨cs, rfl, hsz⟩ := Go.WideShapes.okWide_struct hu hv
  have hc : Try.prog.cellsOf 32 = 2 := by kernel_rfl
  have hc9 : Try.prog.cellsOf 9 = 1 := by kernel_rfl
  rw [hc] at hsz
  obtain ⟨x, y, rfl⟩ : ∃ x y, cs = #[x, y] := by
    match cs, hsz with
    | ⟨[x, y]⟩, _ => exact ⟨x, y, rfl⟩
  obtain ⟨fuel, hf⟩ := h
  obtain ⟨y0, y1, n, -, -, g0, g1⟩ := Go.ChangeShapes.trod_struct2 hu hf
  rw [o0, t0, hc9] at g0
  rw [o1, t1, hc9] at g1
  simp [Value.cells] at g0 g1
  obtain ⟨s0, hs0, _, hz⟩ := DataW.trod_string Try.underlying9 g0
  obtain ⟨s1, hs1, _⟩ := DataW.trod_string Try.underlying9 g1
  simp at hs0 hs1
  subst hs0 hs1
  exact ⟨s0, s1, rfl, hz⟩
end Go.Proofs.Ytfmbikmpobieoaa
/- Lists and numbers that were handed in; how many pairs and children a node has; nodes kept. -/
namespace Go.Proofs.Ytfmbikmpobieoaa
open Go.RowKit Go.Lib Go.Conc
set_option linter.unusedVariables false
set_option maxRecDepth 100000
set_option maxRecDepth 100000
set_option linter.unusedSimpArgs false

theorem ArgP.at {w wr : World} {a : Option Addr} {len cap : Nat} {ps : List Pr} (h : ArgP w a len cap ps) (hB : Below w.heap.size w wr) (j : Nat) (hj : j < len) :
    ∃ (x : Addr) (p : Pr), a = some x ∧ wr.cell? (x.add (j * 2)) = some (.string p.1) ∧ wr.cell? ⟨(x.add (j * 2)).block, (x.add (j * 2)).off + 1, none⟩ = some (.string p.2) := by
  rcases h with ⟨_, h, _⟩ | ⟨x, rfl, hl, hm, hz, hcell⟩
  · omega
  · have hp := pat_get (xs := ps) (p := j) (by omega)
    have hf := flat_get ps j _ hp
    have c0 := hcell _ _ hf.1
    have c1 := hcell _ _ hf.2
    exact ⟨x, _, rfl, (hB.cell (World.block_lt_of_cell? w _ c0)).trans c0, by rw [show (⟨(x.add (j * 2)).block, (x.add (j * 2)).off + 1, none⟩ : Addr) = (x.add (j * 2)).add 1 from rfl, Addr.add_add]; exact (hB.cell (World.block_lt_of_cell? w _ c1)).trans c1⟩
theorem ArgP.len_le {w : World} {a : Option Addr} {len cap : Nat} {ps : List Pr} (h : ArgP w a len cap ps) : len ≤ 9223372036854775807 := by
  rcases h with ⟨_, h, _⟩ | ⟨x, rfl, hl, hm, hz, hcell⟩
  · omega
  · unfold maxLen at hz; omega
/-- how much is told of a node -/
def tot (S : Slots) : Nat := (fm S.P 32).length + (fm S.K 32).length
theorem tot_le (S : Slots) : tot S ≤ 64 := by
  have := fm_len_le S.P 32
  have := fm_len_le S.K 32
  unfold tot; omega
theorem tot_other (S : Slots) (c : Nat) (p q : Pr) (hc : c < 32) : tot ((S.put c (.pr p)).put c (.pr q)) = tot (S.put c (.pr p)) := by
  have eP := (S.put c (.pr p)).P_put c (.pr q)
  have eK := (S.put c (.pr p)).K_put c (.pr q)
  have e1 := S.P_put c (.pr p)
  have e2 := S.K_put c (.pr p)
  unfold tot
  rw [fm_upd _ _ c hc eP.2, fm_split (S.put c (.pr p)).P c hc, eP.1, e1.1]
  rw [fm_upd _ _ c hc eK.2, fm_split (S.put c (.pr p)).K c hc, eK.1, e2.1]
  simp [Sl.p?, Sl.k?]
theorem tot_clear (S : Slots) (c : Nat) (p : Pr) (hc : c < 32) : tot ((S.put c (.pr p)).put c .no) + 1 = tot (S.put c (.pr p)) := by
  have eP := (S.put c (.pr p)).P_put c .no
  have eK := (S.put c (.pr p)).K_put c .no
  have e1 := S.P_put c (.pr p)
  have e2 := S.K_put c (.pr p)
  unfold tot
  rw [fm_upd _ _ c hc eP.2, fm_split (S.put c (.pr p)).P c hc, eP.1, e1.1]
  rw [fm_upd _ _ c hc eK.2, fm_split (S.put c (.pr p)).K c hc, eK.1, e2.1]
  simp [Sl.p?, Sl.k?]
  omega
theorem Inn.tv {base : Nat} {w : World} {t p id : Nat} {l : Bool} {ow : Option Nat} (ht : Tok w t p id l) (ho : ow = none ∨ ow = some t) : ∃ lo, TV w ow lo := by
  rcases ho with rfl | rfl
  · exact ⟨false, TV.nil _⟩
  · exact ⟨l, TV.tok ht⟩

theorem Inn.base {B B' : Nat} {w : World} {b : Nat} {ow : Option Nat} {S : Slots} {pv kv : Value} (h : Inn B w b ow S pv kv) (hb : B' ≤ B) : Inn B' w b ow S pv kv := by
  obtain ⟨d, nn, h, h1, h2⟩ := h
  exact ⟨d, nn, h.base hb, h1, h2⟩
theorem Inn.keepTok {base : Nat} {w w' : World} {b : Nat} {ow : Option Nat} {S : Slots} {pv kv : Value} (h : Inn base w b ow S pv kv) {p c k t i : Nat} {out : Int} {q : List Nat} {l : Bool} (hk : Keep [p, c, t] w w') (hP : Pool w p c k out q) (hT : Tok w t p i l) : Inn base w' b ow S pv kv := by
  obtain ⟨d, nn, h, h1, h2⟩ := h
  refine ⟨d, nn, h.keep hk ?_, h1, h2⟩
  intro x hx hm
  obtain ⟨hbp, s, r, hc⟩ := hP
  have hcl : w.heap[x]? = some (.cells #[.chan (some c), .int .i64 k, .int .i64 out] 143 (0, 0)) ∨ w.heap[x]? = some (.chan k (ids q) false s r false) ∨ w.heap[x]? = some (.cells #[at0 p, .int .i64 i, .bool l] 110 (0, 0)) := by
    simp only [List.mem_cons, List.not_mem_nil, or_false] at hm
    rcases hm with rfl | rfl | rfl
    · exact .inl hbp
    · exact .inr (.inl hc)
    · exact .inr (.inr hT)
  simp only [foot, List.mem_cons, List.mem_append, Option.mem_toList] at hx
  have hob : (∃ cs, w.heap[x]? = some (.cells cs 63 (0, 0))) ∨ (∃ cs, w.heap[x]? = some (.cells cs 32 (0, 0))) ∨ ∃ cs, w.heap[x]? = some (.cells cs 29 (0, 0)) := by
    rcases hx with rfl | e | e
    · exact .inl ⟨_, h.blk⟩
    · exact .inr (.inl (own_cells h.prs x e))
    · exact .inr (.inr (own_cells h.kds x e))
  rcases hob with ⟨cs, e⟩ | ⟨cs, e⟩ | ⟨cs, e⟩ <;> rw [e] at hcl <;> rcases hcl with hcl | hcl | hcl <;> cases hcl
theorem Chg.belowAt {own : Bool} {b : Nat} {pv kv : Value} {b1 : Nat} {pv1 kv1 : Value} {w w' : World} {base : Nat} (h : Chg own b pv kv b1 pv1 kv1 w w') (hg : ∀ x ∈ Ytfmbikmpobieoaa.foot b pv kv, base ≤ x) (hb : base ≤ w.heap.size) : Below base w w' := by
  refine h.keep.below hb ?_
  split
  · exact hg
  · simp
end Go.Proofs.Ytfmbikmpobieoaa
