/- Nodes by what their chunks have. -/
import Derived.Test.YtgldgdpgbfejmaaNo
namespace Go.Proofs.Ytgldgdpgbfejmaa
open Go.RowKit Go.Lib
set_option linter.unusedVariables false
set_option linter.unusedSimpArgs false
def Slots.P (S : Slots) : Nat → Option Pr := fun i => (S i).p?
def Slots.K (S : Slots) : Nat → Option Nat := fun i => (S i).k?
theorem Slots.P_put (S : Slots) (i : Nat) (x : Sl) : (S.put i x).P i = x.p? ∧ ∀ j, j ≠ i → (S.put i x).P j = S.P j := by
  unfold Slots.P Slots.put
  exact ⟨by simp, fun j hj => by simp [hj]⟩
theorem Slots.K_put (S : Slots) (i : Nat) (x : Sl) : (S.put i x).K i = x.k? ∧ ∀ j, j ≠ i → (S.put i x).K j = S.K j := by
  unfold Slots.K Slots.put
  exact ⟨by simp, fun j hj => by simp [hj]⟩
section
variable {α : Type} {d i : Nat} {f g : Nat → Option α}
theorem set_bits (h : BitsOf d (fun i => (f i).isSome)) (hi : i < 32) (hg : ∀ j, j ≠ i → g j = f j) (b : α) (hb : g i = some b) : BitsOf (d ||| onl (i : Int)) (fun i => (g i).isSome) :=
  h.with_ hi (fun j hj => by rw [hg j hj]) (by rw [hb]; rfl)
theorem clr_bits (h : BitsOf d (fun i => (f i).isSome)) (hi : i < 32) (hg : ∀ j, j ≠ i → g j = f j) (hb : g i = none) : BitsOf (clrB d i) (fun i => (g i).isSome) := by
  unfold clrB
  cases ht : d.testBit i with
  | true => rw [if_pos rfl]; exact h.wo_ hi (fun j hj => by rw [hg j hj]) (by rw [hb]; rfl)
  | false =>
    rw [if_neg (by decide)]
    refine h.same fun j => ?_
    by_cases e : j = i
    · subst e
      have := h.bit j hi
      rw [ht] at this
      rw [hb, ← this]; rfl
    · rw [hg j e]
theorem set_list (h : BitsOf d (fun i => (f i).isSome)) (hi : i < 32) (hg : ∀ j, j ≠ i → g j = f j) (b : α) (hb : g i = some b) : setL d i b (fm f 32) = fm g 32 := by
  unfold setL
  rw [cnt_fm f h i (by omega), h.bit i hi, fm_put f g i b hi hg hb]
theorem clr_list (h : BitsOf d (fun i => (f i).isSome)) (hi : i < 32) (hg : ∀ j, j ≠ i → g j = f j) (hb : g i = none) : clrL d i (fm f 32) = fm g 32 := by
  unfold clrL
  rw [cnt_fm f h i (by omega), h.bit i hi, fm_erase f g i hi hg hb]
end
/-- an inner node -/
def Inn (base : Nat) (w : World) (b : Nat) (ow : Option Nat) (S : Slots) (pv kv : Value) : Prop :=
  ∃ d nn, NdV base w b (pt ow) false d nn pv kv (fm S.P 32) (fm S.K 32) ∧ BitsOf d (fun i => (S.P i).isSome) ∧ BitsOf nn (fun i => (S.K i).isSome)
/-- a bucket -/
def Bck (base : Nat) (w : World) (b : Nat) (ow : Option Nat) (L : List Pr) (pv kv : Value) : Prop := NdV base w b (pt ow) true 0 0 pv kv L [] ∧ RisesL L
def InnPost (base : Nat) (own : Bool) (b : Nat) (pv kv : Value) (ow : Option Nat) (S : Slots) (w : World) (e : Ending) (w' : World) : Prop :=
  ∃ b1 pv1 kv1, e = .returned (at0 b1) ∧ Inn base w' b1 ow S pv1 kv1 ∧ Chg own b pv kv b1 pv1 kv1 w w'
def BckPost (base : Nat) (own : Bool) (b : Nat) (pv kv : Value) (ow : Option Nat) (L : List Pr) (w : World) (e : Ending) (w' : World) : Prop :=
  ∃ b1 pv1 kv1, e = .returned (at0 b1) ∧ Bck base w' b1 ow L pv1 kv1 ∧ Chg own b pv kv b1 pv1 kv1 w w'
theorem fits_of {d nn : Nat} {S : Slots} (h1 : BitsOf d (fun i => (S.P i).isSome)) (h2 : BitsOf nn (fun i => (S.K i).isSome)) (i : Nat) (hi : i < 32) : Fits d nn (fm S.P 32) (fm S.K 32) i where
  hd := h1.lt
  hn := h2.lt
  rd := fun e => by rw [cnt_fm _ h1 i (by omega)]; exact fm_lt _ i hi (by rw [h1.bit i hi] at e; exact e)
  rn := fun e => by rw [cnt_fm _ h2 i (by omega)]; exact fm_lt _ i hi (by rw [h2.bit i hi] at e; exact e)
  ld := by rw [cnt_fm _ h1 i (by omega)]; exact fm_le _ i hi
  ln := by rw [cnt_fm _ h2 i (by omega)]; exact fm_le _ i hi
  lx := by have := fm_len_le S.P 32; omega
  lk := by have := fm_len_le S.K 32; omega
section
variable (base b i : Nat) (ow tk : Option Nat) (lo l : Bool) (S : Slots) (pv kv : Value) (w : World) (h : Inn base w b ow S pv kv) (ht : TV w tk l) (ho : TV w ow lo) (hi : i < 32) (hbase : base ≤ w.heap.size)
include h ht ho hi hbase
theorem Inn.setPair (p : Pr) : Calls Try.prog 18 #[at0 b, pt tk, .int .i64 i, p.v] w (InnPost base (ownB ow tk l) b pv kv (newOw tk l) (S.put i (.pr p)) w) := by
  obtain ⟨d, nn, h, h1, h2⟩ := h
  refine (setPair_in base b i p ow tk lo l d nn pv kv _ _ w h ht ho hi (fits_of h1 h2 i hi) hbase).mono ?_
  rintro e w' ⟨b1, pv1, kv1, rfl, h3, hc⟩
  have eP := S.P_put i (.pr p)
  have eK := S.K_put i (.pr p)
  rw [set_list h1 hi eP.2 p eP.1, clr_list h2 hi eK.2 eK.1] at h3
  exact ⟨b1, pv1, kv1, rfl, ⟨_, _, h3, set_bits h1 hi eP.2 p eP.1, clr_bits h2 hi eK.2 eK.1⟩, hc⟩
theorem Inn.setKid (k : Nat) : Calls Try.prog 19 #[at0 b, pt tk, .int .i64 i, at0 k] w (InnPost base (ownB ow tk l) b pv kv (newOw tk l) (S.put i (.kd k)) w) := by
  obtain ⟨d, nn, h, h1, h2⟩ := h
  refine (setKid_in base b i k ow tk lo l d nn pv kv _ _ w h ht ho hi (fits_of h1 h2 i hi) hbase).mono ?_
  rintro e w' ⟨b1, pv1, kv1, rfl, h3, hc⟩
  have eP := S.P_put i (.kd k)
  have eK := S.K_put i (.kd k)
  rw [set_list h2 hi eK.2 k eK.1, clr_list h1 hi eP.2 eP.1] at h3
  exact ⟨b1, pv1, kv1, rfl, ⟨_, _, h3, clr_bits h1 hi eP.2 eP.1, set_bits h2 hi eK.2 k eK.1⟩, hc⟩
theorem Inn.clear : Calls Try.prog 21 #[at0 b, pt tk, .int .i64 i] w (InnPost base (ownB ow tk l) b pv kv (newOw tk l) (S.put i .no) w) := by
  obtain ⟨d, nn, h, h1, h2⟩ := h
  refine (clear_in base b i ow tk lo l d nn pv kv _ _ w h ht ho hi (fits_of h1 h2 i hi) hbase).mono ?_
  rintro e w' ⟨b1, pv1, kv1, rfl, h3, hc⟩
  have eP := S.P_put i .no
  have eK := S.K_put i .no
  rw [clr_list h2 hi eK.2 eK.1, clr_list h1 hi eP.2 eP.1] at h3
  exact ⟨b1, pv1, kv1, rfl, ⟨_, _, h3, clr_bits h1 hi eP.2 eP.1, clr_bits h2 hi eK.2 eK.1⟩, hc⟩
theorem Inn.setKidNil : Calls Try.prog 19 #[at0 b, pt tk, .int .i64 i, .pointer none] w (InnPost base (ownB ow tk l) b pv kv (newOw tk l) (S.put i .no) w) := by
  refine setKid_clear _ _ _ w _ ((Inn.clear base b i ow tk lo l S pv kv w h ht ho hi hbase).mono ?_)
  rintro e w' ⟨b1, pv1, kv1, rfl, h3, hc⟩
  exact ⟨_, rfl, b1, pv1, kv1, rfl, h3, hc⟩
end
section
variable {base : Nat} {w w' : World} {b : Nat} {ow : Option Nat} {S : Slots} {pv kv : Value}
theorem Inn.keep (h : Inn base w b ow S pv kv) {X : List Nat} (hk : Keep X w w') (hX : ∀ x ∈ foot b pv kv, x ∉ X) : Inn base w' b ow S pv kv := by
  obtain ⟨d, nn, h, h1, h2⟩ := h
  exact ⟨d, nn, h.keep hk hX, h1, h2⟩
theorem Inn.below (h : Inn base w b ow S pv kv) (hb : Below w.heap.size w w') : Inn base w' b ow S pv kv := h.keep (Keep.of_below (X := []) hb) (by simp)
theorem Inn.drewN (h : Inn base w b ow S pv kv) (n : Nat) : Inn base (w.drewN n) b ow S pv kv := by
  obtain ⟨d, nn, h, h1, h2⟩ := h
  exact ⟨d, nn, h.drewN n, h1, h2⟩
theorem Inn.footLt (h : Inn base w b ow S pv kv) : ∀ x ∈ foot b pv kv, x < w.heap.size := by
  obtain ⟨d, nn, h, h1, h2⟩ := h
  exact h.footLt
theorem Inn.footGe (h : Inn base w b ow S pv kv) : ∀ x ∈ foot b pv kv, base ≤ x := by
  obtain ⟨d, nn, h, h1, h2⟩ := h
  exact h.footGe
theorem Inn.noTok (h : Inn base w b ow S pv kv) : ∀ x ∈ foot b pv kv, ∀ cs, ¬ Blk w x 112 cs := by
  obtain ⟨d, nn, h, h1, h2⟩ := h
  exact h.noTok
end
theorem Inn.pair (base b i : Nat) (ow : Option Nat) (S : Slots) (pv kv : Value) (w : World) (h : Inn base w b ow S pv kv) (hi : i < 32) : Calls Try.prog 24 #[at0 b, .int .i64 i] w (PairPost (S.P i) w) := by
  obtain ⟨d, nn, h, h1, h2⟩ := h
  have hf := fits_of h1 h2 i hi
  cases hp : S.P i with
  | none =>
    have hb : d.testBit i = false := by rw [h1.bit i hi, hp]; rfl
    exact pair_none (at0 b) d i w h1.lt (Lib.hid (by rw [has_bit d i hi]; exact hb)) (fun w' hB => data_any _ _ _ _ _ _ _ _ _ _ w' (h.below hB))
  | some p =>
    have hb : d.testBit i = true := by rw [h1.bit i hi, hp]; rfl
    have hc := pair_some base b (pt ow) false d nn pv kv _ _ w h i hi h1.lt (Lib.hid hb) (hf.rd hb) hf.lx
    have e : pat (fm S.P 32) (cnt i d) = p := by
      rw [cnt_fm _ h1 i (by omega)]
      have := fm_at S.P i p hi hp
      unfold pat
      rw [this]; rfl
    rw [e] at hc
    exact hc
theorem Inn.kid (base b i : Nat) (ow : Option Nat) (S : Slots) (pv kv : Value) (w : World) (h : Inn base w b ow S pv kv) (hi : i < 32) : Calls Try.prog 25 #[at0 b, .int .i64 i] w (KidPost (S.K i) w) := by
  obtain ⟨d, nn, h, h1, h2⟩ := h
  have hf := fits_of h1 h2 i hi
  cases hp : S.K i with
  | none =>
    have hb : nn.testBit i = false := by rw [h2.bit i hi, hp]; rfl
    exact kid_none (at0 b) nn i w h2.lt (Lib.hid (by rw [has_bit nn i hi]; exact hb)) (nodes_any _ _ _ _ _ _ _ _ _ _ w h)
  | some k =>
    have hb : nn.testBit i = true := by rw [h2.bit i hi, hp]; rfl
    refine kid_some base b (pt ow) false d nn pv kv _ _ w h i k hi h2.lt (Lib.hid hb) ?_ hf.lk
    rw [cnt_fm _ h2 i (by omega)]
    exact fm_at S.K i k hi hp
theorem Inn.len (base b : Nat) (ow : Option Nat) (S : Slots) (pv kv : Value) (w : World) (h : Inn base w b ow S pv kv) : Calls Try.prog 30 #[at0 b] w fun e w' => e = .returned (.int .i64 ((fm S.P 32).length + (fm S.K 32).length : Nat)) ∧ ∃ k, w' = w.drewN k := by
  obtain ⟨d, nn, h, h1, h2⟩ := h
  have hf := fits_of h1 h2 0 (by omega)
  exact len_any base b _ _ _ _ _ _ _ _ w h hf.lx hf.lk
theorem Inn.owned (base b : Nat) (ow tk : Option Nat) (lo l : Bool) (S : Slots) (pv kv : Value) (w : World) (h : Inn base w b ow S pv kv) (ht : TV w tk l) (ho : TV w ow lo) : Calls Try.prog 31 #[at0 b, pt tk] w fun e w' => e = .returned (.bool (ownB ow tk l)) ∧ w = w' := by
  obtain ⟨d, nn, h, h1, h2⟩ := h
  exact owned_any base b ow tk lo l false d nn pv kv _ _ w h ht ho
theorem Inn.new (w : World) : Calls Try.prog 26 #[] w fun e w' => ∃ b, e = .returned (at0 b) ∧ w.heap.size ≤ b ∧ Inn w.heap.size w' b none (fun _ => .no) (.slice none 0 0) (.slice none 0 0) ∧ Below w.heap.size w w' := by
  refine (inner_any w).mono ?_
  rintro e w' ⟨rfl, h, hB⟩
  have e1 : fm (Slots.P fun _ => .no) 32 = [] := by decide
  have e2 : fm (Slots.K fun _ => .no) 32 = [] := by decide
  exact ⟨_, rfl, Nat.le_refl _, ⟨0, 0, by rw [e1, e2]; exact h, BitsOf.zero (fun _ => rfl), BitsOf.zero (fun _ => rfl)⟩, hB⟩
end Go.Proofs.Ytgldgdpgbfejmaa
