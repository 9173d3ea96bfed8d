/- The changes of a node: SetPair, SetKid, Clear. -/
import Derived.Test.YtgldgdpgbfejmaaMK
import Derived.StillTailTactics
namespace Go.Proofs.Ytgldgdpgbfejmaa
open Go.RowKit Go.Lib
set_option linter.unusedVariables false
set_option linter.unusedSimpArgs false
attribute [local irreducible] cnt
/-- where a change is made: in place, or in a new node -/
structure Chg (own : Bool) (b : Nat) (pv kv : Value) (b1 : Nat) (pv1 kv1 : Value) (w w' : World) : Prop where
  place : own = true → b1 = b
  new : own = false → w.heap.size ≤ b1
  foot : ∀ x ∈ foot b1 pv1 kv1, (own = true ∧ x ∈ Ytgldgdpgbfejmaa.foot b pv kv) ∨ w.heap.size ≤ x
  keep : Keep (if own = true then Ytgldgdpgbfejmaa.foot b pv kv else []) w w'
theorem Chg.moves {own : Bool} {b b1 : Nat} {pv kv pv1 kv1 pv2 kv2 : Value} {w w1 w2 : World} (h : Chg own b pv kv b1 pv1 kv1 w w1) (m : Moves b1 pv1 kv1 pv2 kv2 w1 w2) : Chg own b pv kv b1 pv2 kv2 w w2 := by
  have hs := h.keep.all.size
  refine ⟨h.place, h.new, fun x hx => ?_, h.keep.comp m.2.2 fun y hy => ?_⟩
  · simp only [Ytgldgdpgbfejmaa.foot, List.mem_cons, List.mem_append, Option.mem_toList] at hx
    rcases hx with rfl | e | e
    · exact h.foot x (by simp [Ytgldgdpgbfejmaa.foot])
    · rcases m.1 x e with e' | e'
      · exact h.foot x (by simp [Ytgldgdpgbfejmaa.foot, e'])
      · exact .inr (by omega)
    · rcases m.2.1 x e with e' | e'
      · exact h.foot x (by simp [Ytgldgdpgbfejmaa.foot, e'])
      · exact .inr (by omega)
  · rcases h.foot y hy with ⟨e, e'⟩ | e
    · left; rw [if_pos e]; exact e'
    · exact .inr e
theorem Chg.below {own : Bool} {b b1 : Nat} {pv kv pv1 kv1 : Value} {w0 w w1 : World} (h : Chg own b pv kv b1 pv1 kv1 w w1) (hb : Below w0.heap.size w0 w) : Chg own b pv kv b1 pv1 kv1 w0 w1 := by
  have hs := hb.size
  refine ⟨h.place, fun e => Nat.le_trans hs (h.new e), fun x hx => ?_, (Keep.of_below (X := if own = true then Ytgldgdpgbfejmaa.foot b pv kv else []) hb).trans h.keep⟩
  rcases h.foot x hx with e | e
  · exact .inl e
  · exact .inr (by omega)
theorem NdV.base {B B' : Nat} {w : World} {b : Nat} {o : Value} {bk : Bool} {d nn : Nat} {pv kv : Value} {xs : List Pr} {ks : List Nat} (h : NdV B w b o bk d nn pv kv xs ks) (hb : B' ≤ B) : NdV B' w b o bk d nn pv kv xs ks :=
  ⟨h.blk, Nat.le_trans hb h.ge, h.prs.base hb, h.kds.base hb⟩
theorem NdV.footGe {B : Nat} {w : World} {b : Nat} {o : Value} {bk : Bool} {d nn : Nat} {pv kv : Value} {xs : List Pr} {ks : List Nat} (h : NdV B w b o bk d nn pv kv xs ks) : ∀ x ∈ foot b pv kv, B ≤ x := by
  intro x hx
  simp only [foot, List.mem_cons, List.mem_append, Option.mem_toList] at hx
  rcases hx with rfl | e | e
  · exact h.ge
  · exact own_ge h.prs x e
  · exact own_ge h.kds x e
theorem NdV.footLt {B : Nat} {w : World} {b : Nat} {o : Value} {bk : Bool} {d nn : Nat} {pv kv : Value} {xs : List Pr} {ks : List Nat} (h : NdV B w b o bk d nn pv kv xs ks) : ∀ x ∈ foot b pv kv, x < w.heap.size := by
  intro x hx
  simp only [foot, List.mem_cons, List.mem_append, Option.mem_toList] at hx
  rcases hx with rfl | e | e
  · exact h.blk.lt
  · exact (World.ownsRow.lt h.prs x e).2
  · exact (World.ownsRow.lt h.kds x e).2
/-- what a change leaves -/
def ChgPost (base : Nat) (own : Bool) (b : Nat) (pv kv : Value) (ow : Option Nat) (bk : Bool) (d nn : Nat) (xs : List Pr) (ks : List Nat) (w : World) (e : Ending) (w' : World) : Prop :=
  ∃ b1 pv1 kv1, e = .returned (at0 b1) ∧ NdV base w' b1 (pt ow) bk d nn pv1 kv1 xs ks ∧ Chg own b pv kv b1 pv1 kv1 w w'
theorem newOw_own {ow tk : Option Nat} {l : Bool} (h : ownB ow tk l = true) : newOw tk l = ow := by
  unfold ownB at h
  simp only [Bool.and_eq_true, decide_eq_true_eq] at h
  unfold newOw
  rw [h.1, h.2]; rfl
theorem toChange_any (base b : Nat) (ow tk : Option Nat) (lo l bk : Bool) (d nn : Nat) (pv kv : Value) (xs : List Pr) (ks : List Nat) (w : World) (h : NdV base w b (pt ow) bk d nn pv kv xs ks) (ht : TV w tk l) (ho : TV w ow lo) (hn1 : xs.length ≤ 800) (hn2 : ks.length ≤ 800) (hbase : base ≤ w.heap.size) :
    Calls Try.prog 55 #[at0 b, pt tk] w (ChgPost base (ownB ow tk l) b pv kv (newOw tk l) bk d nn xs ks w) := by
  cases he : ownB ow tk l with
  | true =>
    refine (toChange_own base b ow tk lo l bk d nn pv kv xs ks w h ht ho (Lib.hid he)).mono ?_
    rintro e w' ⟨rfl, rfl⟩
    refine ⟨b, pv, kv, rfl, by rw [newOw_own he]; exact h, fun _ => rfl, (fun e => by cases e), fun x hx => .inl ⟨rfl, hx⟩, Keep.refl _ _⟩
  | false =>
    refine (toChange_new base b ow tk lo l bk d nn pv kv xs ks w h ht ho (Lib.hid he) hn1 hn2).mono ?_
    rintro e w' ⟨b1, pv1, kv1, rfl, h1, hB⟩
    exact ⟨b1, pv1, kv1, rfl, h1.base hbase, (fun e => by cases e), fun _ => h1.ge, fun x hx => .inr (h1.footGe x hx), Keep.of_below hB⟩
/-- what is asked of a node's sets and lists, at chunk i -/
structure Fits (d nn : Nat) (xs : List Pr) (ks : List Nat) (i : Nat) : Prop where
  hd : d < 4294967296
  hn : nn < 4294967296
  rd : d.testBit i = true → cnt i d < xs.length
  rn : nn.testBit i = true → cnt i nn < ks.length
  ld : cnt i d ≤ xs.length
  ln : cnt i nn ≤ ks.length
  lx : xs.length ≤ 800
  lk : ks.length ≤ 800
set_option maxRecDepth 100000 in
set_option maxHeartbeats 4000000 in
theorem setPair_in (base b i : Nat) (p : Pr) (ow tk : Option Nat) (lo l : Bool) (d nn : Nat) (pv kv : Value) (xs : List Pr) (ks : List Nat) (w : World) (h : NdV base w b (pt ow) false d nn pv kv xs ks) (ht : TV w tk l) (ho : TV w ow lo) (hi : i < 32) (hf : Fits d nn xs ks i) (hbase : base ≤ w.heap.size) :
    Calls Try.prog 18 #[at0 b, pt tk, .int .i64 i, p.v] w (ChgPost base (ownB ow tk l) b pv kv (newOw tk l) false (d ||| onl (i : Int)) (clrB nn i) (setL d i p xs) (clrL nn i ks) w) := by
  have hBe := (Below.refl _ w).alloc (Nat.le_refl _) (.cells #[.string p.1, .string p.2] 27)
  have hbx := Blk.new w 27 #[.string p.1, .string p.2]
  have h1 := h.below hBe
  have ht1 := ht.below hBe
  have ho1 := ho.below hBe
  have hfl := h.footLt
  have HF := Lib.hid hf
  have HFL := Lib.hid hfl
  have lx := hf.lx
  have lk := hf.lk
  unfold Pr.v
  clear h ht ho hf hfl
  go_enter Try.func18, Try.ntmps18
  go_upto_region 1 with (fail)
  generalize w.alloc (.cells #[.string p.1, .string p.2] 27) = W at *
  obtain ⟨N, hN⟩ : ∃ N, N = w.heap.size := ⟨_, rfl⟩
  rw [← hN] at hbx ⊢
  have HN := Lib.hid hN
  clear hN
  go_wp2_with fail
  refine (hasChunk_yes base b (pt ow) false d nn pv kv xs ks W h1 i hi rfl).mono ?_
  rintro e w' ⟨rfl, rfl⟩
  go_wp2_with fail
  refine (toChange_any base b ow tk lo l false d nn pv kv xs ks W h1 ht1 ho1 lx lk (Nat.le_trans hbase hBe.size)).mono ?_
  rintro e w1 ⟨b1, pv1, kv1, rfl, h2, hc⟩
  have hbx1 : Blk w1 N 27 #[.string p.1, .string p.2] := hbx.keep hc.keep (by
    split
    · exact fun hm => by have := HFL.out N hm; have := HN.out; omega
    · simp)
  have b0 : w1.drew.cell? ⟨N, 0, none⟩ = some (.string p.1) := hbx1.cell 0
  have b1' : w1.drew.cell? ⟨N, 1, none⟩ = some (.string p.2) := hbx1.cell 1
  have e0 : w1.cell? ⟨N, 0, none⟩ = some (.string p.1) := hbx1.cell 0
  have e1 : w1.cell? ⟨N, 1, none⟩ = some (.string p.2) := hbx1.cell 1
  have h2d : NdV base w1.drew b1 (pt (newOw tk l)) false d nn pv1 kv1 xs ks := h2.drewN 1
  have hc0 := hc.below hBe
  have hcd : Chg (ownB ow tk l) b pv kv b1 pv1 kv1 w w1.drew := ⟨hc0.place, hc0.new, hc0.foot, hc0.keep.drew⟩
  have hbs : base ≤ w1.drew.heap.size := Nat.le_trans hbase hc0.keep.all.size
  clear h1 ht1 ho1 hc hc0 hbx hbx1 h2
  unfold at0
  go_wp2_with fail
  go_still_tail 5, (by kernel_rfl)
  change wpList _ _ _ _ _ w1.drew
  generalize w1.drew = W1 at *
  clear b0 b1' e0 e1
  go_wp2_with fail
  refine (setPair_any base b1 i p (pt (newOw tk l)) false d nn pv1 kv1 xs ks W1 h2d HF.out.hd HF.out.hn hi HF.out.rd HF.out.rn HF.out.ld lx lk hbs).mono ?_
  rintro e w2 ⟨rfl, pv2, kv2, h3, hm⟩
  have hc3 := hcd.moves hm
  clear hcd hm h2d
  go_wp2_with fail
  go_ret
  exact ⟨b1, pv2, kv2, rfl, h3, hc3⟩
set_option maxRecDepth 100000 in
set_option maxHeartbeats 4000000 in
theorem setPair_out (base b : Nat) (i : Int) (p : Pr) (o tv : Value) (bk : Bool) (d nn : Nat) (pv kv : Value) (xs : List Pr) (ks : List Nat) (w : World) (h : NdV base w b o bk d nn pv kv xs ks) (hi : bk = true ∨ i < 0 ∨ 32 ≤ i) :
    Calls Try.prog 18 #[at0 b, tv, .int .i64 i, p.v] w fun e w' => e = .returned (at0 b) ∧ Below w.heap.size w w' := by
  have hBe := (Below.refl _ w).alloc (Nat.le_refl _) (.cells #[.string p.1, .string p.2] 27)
  have h1 := h.below hBe
  have hc := hasChunk_no base b o bk d nn pv kv xs ks _ h1 i hi
  unfold Pr.v
  unfold at0 at *
  clear h h1 hi
  go_enter Try.func18, Try.ntmps18
  go_upto_region 1 with (fail)
  generalize w.alloc (.cells #[.string p.1, .string p.2] 27) = W at *
  go_wp2_with fail
  refine hc.mono ?_
  rintro e w' ⟨rfl, rfl⟩
  go_wp2_with fail
  go_ret
  exact ⟨rfl, hBe⟩
set_option maxRecDepth 100000 in
set_option maxHeartbeats 4000000 in
theorem setPair_nil (i : Int) (p : Pr) (tv : Value) (w : World) : Calls Try.prog 18 #[.pointer none, tv, .int .i64 i, p.v] w fun e w' => e = .returned (.pointer none) ∧ Below w.heap.size w w' := by
  have hBe := (Below.refl _ w).alloc (Nat.le_refl _) (.cells #[.string p.1, .string p.2] 27)
  have hc := hasChunk_nil i (w.alloc (.cells #[.string p.1, .string p.2] 27))
  unfold Pr.v
  go_enter Try.func18, Try.ntmps18
  go_upto_region 1 with (fail)
  generalize w.alloc (.cells #[.string p.1, .string p.2] 27) = W at *
  go_wp2_with fail
  refine hc.mono ?_
  rintro e w' ⟨rfl, rfl⟩
  go_wp2_with fail
  go_ret
  exact ⟨rfl, hBe⟩
set_option maxRecDepth 100000 in
set_option maxHeartbeats 4000000 in
theorem clear_in (base b i : Nat) (ow tk : Option Nat) (lo l : Bool) (d nn : Nat) (pv kv : Value) (xs : List Pr) (ks : List Nat) (w : World) (h : NdV base w b (pt ow) false d nn pv kv xs ks) (ht : TV w tk l) (ho : TV w ow lo) (hi : i < 32) (hf : Fits d nn xs ks i) (hbase : base ≤ w.heap.size) :
    Calls Try.prog 21 #[at0 b, pt tk, .int .i64 i] w (ChgPost base (ownB ow tk l) b pv kv (newOw tk l) false (clrB d i) (clrB nn i) (clrL d i xs) (clrL nn i ks) w) := by
  have HF := Lib.hid hf
  have lx := hf.lx
  have lk := hf.lk
  clear hf
  go_enter Try.func21, Try.ntmps21
  go_wp2_with fail
  refine (hasChunk_yes base b (pt ow) false d nn pv kv xs ks w h i hi rfl).mono ?_
  rintro e w' ⟨rfl, rfl⟩
  go_wp2_with fail
  refine (toChange_any base b ow tk lo l false d nn pv kv xs ks w h ht ho lx lk hbase).mono ?_
  rintro e w1 ⟨b1, pv1, kv1, rfl, h2, hc⟩
  clear h ht ho
  unfold at0
  go_wp2_with fail
  refine (clearPair_any base b1 i (pt (newOw tk l)) false d nn pv1 kv1 xs ks w1 h2 HF.out.hd hi HF.out.rd (by omega)).mono ?_
  rintro e w2 ⟨rfl, pv2, kv2, h3, hm⟩
  have hc3 := hc.moves hm
  clear hc hm h2
  go_wp2_with fail
  refine (clearKid_any base b1 i (pt (newOw tk l)) false (clrB d i) nn pv2 kv2 (clrL d i xs) ks w2 h3 HF.out.hn hi HF.out.rn (by omega)).mono ?_
  rintro e w3 ⟨rfl, pv3, kv3, h4, hm⟩
  have hc4 := hc3.moves hm
  clear hc3 hm h3
  go_wp2_with fail
  go_ret
  exact ⟨b1, pv3, kv3, rfl, h4, hc4⟩
theorem clear_out (base b : Nat) (i : Int) (o tv : Value) (bk : Bool) (d nn : Nat) (pv kv : Value) (xs : List Pr) (ks : List Nat) (w : World) (h : NdV base w b o bk d nn pv kv xs ks) (hi : bk = true ∨ i < 0 ∨ 32 ≤ i) :
    Calls Try.prog 21 #[at0 b, tv, .int .i64 i] w fun e w' => e = .returned (at0 b) ∧ w = w' := by
  have hc := hasChunk_no base b o bk d nn pv kv xs ks _ h i hi
  unfold at0 at *
  clear h hi
  go_enter Try.func21, Try.ntmps21
  go_wp2_with fail
  refine hc.mono ?_
  rintro e w' ⟨rfl, rfl⟩
  go_wp2_with fail
  go_ret
  exact ⟨rfl, rfl⟩
theorem clear_nil (i : Int) (tv : Value) (w : World) : Calls Try.prog 21 #[.pointer none, tv, .int .i64 i] w fun e w' => e = .returned (.pointer none) ∧ w = w' := by
  have hc := hasChunk_nil i w
  go_enter Try.func21, Try.ntmps21
  go_wp2_with fail
  refine hc.mono ?_
  rintro e w' ⟨rfl, rfl⟩
  go_wp2_with fail
  go_ret
  exact ⟨rfl, rfl⟩
set_option maxRecDepth 100000 in
set_option maxHeartbeats 4000000 in
theorem setKid_in (base b i k : Nat) (ow tk : Option Nat) (lo l : Bool) (d nn : Nat) (pv kv : Value) (xs : List Pr) (ks : List Nat) (w : World) (h : NdV base w b (pt ow) false d nn pv kv xs ks) (ht : TV w tk l) (ho : TV w ow lo) (hi : i < 32) (hf : Fits d nn xs ks i) (hbase : base ≤ w.heap.size) :
    Calls Try.prog 19 #[at0 b, pt tk, .int .i64 i, at0 k] w (ChgPost base (ownB ow tk l) b pv kv (newOw tk l) false (clrB d i) (nn ||| onl (i : Int)) (clrL d i xs) (setL nn i k ks) w) := by
  have HF := Lib.hid hf
  have lx := hf.lx
  have lk := hf.lk
  have hcy := hasChunk_yes base b (pt ow) false d nn pv kv xs ks w h i hi rfl
  have htc := toChange_any base b ow tk lo l false d nn pv kv xs ks w h ht ho lx lk hbase
  clear hf h ht ho
  unfold at0 at *
  go_enter Try.func19, Try.ntmps19
  go_wp2_with fail
  refine hcy.mono ?_
  rintro e w' ⟨rfl, rfl⟩
  go_wp2_with fail
  refine htc.mono ?_
  rintro e w1 ⟨b1, pv1, kv1, rfl, h2, hc⟩
  have hbs : base ≤ w1.heap.size := Nat.le_trans hbase hc.keep.all.size
  have hsk := setKid_any base b1 i k (pt (newOw tk l)) false d nn pv1 kv1 xs ks w1 h2 HF.out.hd HF.out.hn hi HF.out.rd HF.out.rn HF.out.ln lx lk hbs
  unfold at0 at *
  go_wp2_with fail
  refine hsk.mono ?_
  rintro e w2 ⟨rfl, pv2, kv2, h3, hm⟩
  have hc3 := hc.moves hm
  clear hc hm h2 hsk
  go_wp2_with fail
  go_ret
  exact ⟨b1, pv2, kv2, rfl, h3, hc3⟩
theorem setKid_out (base b : Nat) (i : Int) (k : Nat) (o tv : Value) (bk : Bool) (d nn : Nat) (pv kv : Value) (xs : List Pr) (ks : List Nat) (w : World) (h : NdV base w b o bk d nn pv kv xs ks) (hi : bk = true ∨ i < 0 ∨ 32 ≤ i) :
    Calls Try.prog 19 #[at0 b, tv, .int .i64 i, at0 k] w fun e w' => e = .returned (at0 b) ∧ w = w' := by
  have hc := hasChunk_no base b o bk d nn pv kv xs ks _ h i hi
  unfold at0 at *
  clear h hi
  go_enter Try.func19, Try.ntmps19
  go_wp2_with fail
  refine hc.mono ?_
  rintro e w' ⟨rfl, rfl⟩
  go_wp2_with fail
  go_ret
  exact ⟨rfl, rfl⟩
theorem setKid_nil (i : Int) (k : Nat) (tv : Value) (w : World) : Calls Try.prog 19 #[.pointer none, tv, .int .i64 i, at0 k] w fun e w' => e = .returned (.pointer none) ∧ w = w' := by
  have hc := hasChunk_nil i w
  unfold at0
  go_enter Try.func19, Try.ntmps19
  go_wp2_with fail
  refine hc.mono ?_
  rintro e w' ⟨rfl, rfl⟩
  go_wp2_with fail
  go_ret
  exact ⟨rfl, rfl⟩
/-- with a nil child SetKid is Clear -/
theorem setKid_clear (nv tv : Value) (i : Int) (w : World) (R : Ending → World → Prop) (hc : Calls Try.prog 21 #[nv, tv, .int .i64 i] w fun e w' => ∃ a, e = .returned (.pointer a) ∧ R (.returned (.pointer a)) w') : Calls Try.prog 19 #[nv, tv, .int .i64 i, .pointer none] w R := by
  go_enter Try.func19, Try.ntmps19
  go_wp2_with fail
  refine hc.mono ?_
  rintro e w' ⟨a, rfl, hR⟩
  go_wp2_with fail
  exact hR
end Go.Proofs.Ytgldgdpgbfejmaa
