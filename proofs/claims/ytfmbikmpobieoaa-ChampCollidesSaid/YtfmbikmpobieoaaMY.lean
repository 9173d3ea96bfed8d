/- Put and Drop without a token; the document's example. -/
import Derived.Test.YtfmbikmpobieoaaMU
namespace Go.Proofs.Ytfmbikmpobieoaa
open Go.RowKit Go.Lib
set_option linter.unusedVariables false
set_option maxRecDepth 100000
set_option linter.unusedSimpArgs false
set_option maxRecDepth 100000
attribute [local irreducible] cnt
def TrueB (w : World) (e : Ending) (w' : World) : Prop := e = .returned (.bool true) ∧ Below w.heap.size w w'
theorem keepH {N0 : Nat} {k0 k1 m : Int} {w w' : World} (h : (fun w' : World => w'.cell? ⟨N0, 0, none⟩ = some (.int .u64 k0) ∧ w'.cell? ⟨N0, 1, none⟩ = some (.int .u64 k1) ∧ w'.cell? ⟨N0, 2, none⟩ = some (.int .u64 m)) w) (hB : Below w.heap.size w w') : (fun w' : World => w'.cell? ⟨N0, 0, none⟩ = some (.int .u64 k0) ∧ w'.cell? ⟨N0, 1, none⟩ = some (.int .u64 k1) ∧ w'.cell? ⟨N0, 2, none⟩ = some (.int .u64 m)) w' :=
  ⟨(hB.cell (World.block_lt_of_cell? w _ h.1)).trans h.1, (hB.cell (World.block_lt_of_cell? w _ h.2.1)).trans h.2.1, (hB.cell (World.block_lt_of_cell? w _ h.2.2)).trans h.2.2⟩
/-- a trie that nobody's token may change -/
def TP (k0 k1 m : Int) (base : Nat) (w : World) (b : Nat) (ps : List Pr) : Prop := Trie (hz k0 k1 m) (fun _ => False) none false base w 13 0 b ps (fun _ => False)
def hv3 (k0 k1 m : Int) : Value := .agg #[.int .u64 k0, .int .u64 k1, .int .u64 m]
section
variable {k0 k1 m : Int} {base : Nat} {w w' : World} {b : Nat} {ps : List Pr}
theorem TP.below (h : TP k0 k1 m base w b ps) (hb : Below w.heap.size w w') : TP k0 k1 m base w' b ps := Trie.below h hb
theorem cx_nil (hb : base ≤ w.heap.size) : Cx (fun _ => False) none false base w := ⟨TV.nil _, fun h => by simp at h, fun _ _ _ h => h, hb, fun h => by simp at h⟩
theorem ChPost.plain {b1 : Nat} (h : ChPost (hz k0 k1 m) (fun _ => False) none false base 13 0 ps (fun _ => False) w b1 w') : TP k0 k1 m base w' b1 ps ∧ Below w.heap.size w w' := by
  obtain ⟨F', hT, hK, -, -⟩ := h
  exact ⟨Trie.forget _ _ _ _ _ hT none, hK.below fun _ h => h⟩
theorem put_plain (p : Pr) (h0 : U64 k0) (h1 : U64 k1) (hs : p.1.size ≤ 1000) (hb : base ≤ w.heap.size) (h : TP k0 k1 m base w b ps) (hr : RisesL ps) (hn : ps.length ≤ 700) (hz1 : ∀ x ∈ ps, x.1.size ≤ 1000) :
    Calls Try.prog 6 #[.agg #[.int .u64 k0, .int .u64 k1, .int .u64 m], .pointer none, .pointer (some ⟨b, 0, none⟩), .agg #[.string p.1, .string p.2]] w fun e w' => ∃ b', e = .returned (.tuple #[.pointer (some ⟨b', 0, none⟩), .bool (getK ps p.1).isNone]) ∧ TP k0 k1 m base w' b' (putK ps p) ∧ Below w.heap.size w w' ∧ (getK ps p.1 = some p.2 → b' = b) := by
  cases hg : getK ps p.1 with
  | none =>
    refine (Put_none k0 k1 m _ none false base none p.1 p.2 b ps _ w rfl h0 h1 hs (cx_nil hb) h hr hn hz1 hg).mono ?_
    rintro e w1 ⟨b1, rfl, hP⟩
    exact ⟨b1, rfl, hP.plain.1, hP.plain.2, fun h => by simp at h⟩
  | some v =>
    by_cases hv : v = p.2
    · subst hv
      refine (Put_same k0 k1 m _ none false base none p.1 p.2 b ps _ w rfl h0 h1 hs h hn hg).mono ?_
      rintro e w1 ⟨rfl, hB⟩
      exact ⟨b, rfl, by rw [put_same hr hg]; exact h.below hB, hB, fun _ => rfl⟩
    · refine (Put_other k0 k1 m _ none false base none p.1 p.2 b ps _ w rfl h0 h1 hs (cx_nil hb) h hr hn hz1 v hg hv).mono ?_
      rintro e w1 ⟨b1, rfl, hP⟩
      exact ⟨b1, rfl, hP.plain.1, hP.plain.2, fun h => absurd (Option.some.inj h) hv⟩
theorem get_plain (k : ByteArray) (h0 : U64 k0) (h1 : U64 k1) (hs : k.size ≤ 1000) (h : TP k0 k1 m base w b ps) (hn : ps.length ≤ 800) :
    Calls Try.prog 17 #[.agg #[.int .u64 k0, .int .u64 k1, .int .u64 m], .pointer (some ⟨b, 0, none⟩), .string k] w (GetPost (getK ps k) w) := get_trie k0 k1 m _ none false base b ps _ k w h h0 h1 hs hn
theorem empty_plain (k0 k1 m : Int) (hb : base ≤ w.heap.size) : Calls Try.prog 5 #[] w (RetB fun b w' => TP k0 k1 m base w' b [] ∧ Below w.heap.size w w') := empty_any _ base w hb
theorem len_plain (h : TP k0 k1 m base w b ps) (hn : ps.length ≤ 800) : Calls Try.prog 18 #[.pointer (some ⟨b, 0, none⟩)] w fun e w' => e = .returned (.int .i64 (ps.length : Nat)) ∧ Below w.heap.size w w' := len_trie _ _ _ _ base 13 0 b ps _ w h hn (Nat.le_refl _)
end
theorem rises_nil : RisesL [] := List.Pairwise.nil
theorem rises_one (p : Pr) : RisesL [p] := List.pairwise_singleton _ _
theorem put_empty (p : Pr) : putK [] p = [p] := rfl
def prA : Pr := (⟨#[97]⟩, ⟨#[49]⟩)
def prB : Pr := (⟨#[98]⟩, ⟨#[50]⟩)
theorem getA : getK [prA] prB.1 = none := by decide
theorem lenAB : (putK [prA] prB).length = 2 := put_two (by decide)
theorem u64_zero : U64 0 := ⟨by decide, by decide⟩
theorem get_put {p : Pr} {ps : List Pr} (hr : RisesL (putK ps p)) : getK (putK ps p) p.1 = some p.2 := getK_of_mem hr (put_sets.2 (.inl rfl))
set_option maxHeartbeats 4000000 in
theorem awake_any (w : World) : Calls Try.prog 4 #[] w (TrueB w) := by
  go_enter Try.func4, Try.ntmps4
  go_wp2_with fail
  refine (Sip.full_any 0 0 _).mono ?_
  rintro e w1 ⟨rfl, hB1⟩
  go_upto_region 2 with (fail)
  have hBa := hB1.alloc hB1.size (.cells #[.int .u64 0, .int .u64 0, .int .u64 18446744073709551615] 28)
  have hnew := Blk.new w1 28 #[.int .u64 0, .int .u64 0, .int .u64 18446744073709551615]
  generalize w1.alloc (.cells #[.int .u64 0, .int .u64 0, .int .u64 18446744073709551615] 28) = W at *
  generalize (18446744073709551615 : Int) = MX at *
  generalize w1.heap.size = N0 at *
  have hS : (fun w' : World => w'.cell? ⟨N0, 0, none⟩ = some (.int .u64 0) ∧ w'.cell? ⟨N0, 1, none⟩ = some (.int .u64 0) ∧ w'.cell? ⟨N0, 2, none⟩ = some (.int .u64 MX)) W.drew := ⟨hnew.cell 0, hnew.cell 1, hnew.cell 2⟩
  have hBd : Below w.heap.size w W.drew := hBa.drew
  have ke := empty_plain (w := W.drew) (base := w.heap.size) 0 0 MX hBd.size
  clear hB1 hBa hnew
  go_region_held3 (fun w' : World => w'.cell? ⟨N0, 0, none⟩ = some (.int .u64 0) ∧ w'.cell? ⟨N0, 1, none⟩ = some (.int .u64 0) ∧ w'.cell? ⟨N0, 2, none⟩ = some (.int .u64 MX)) (first | exact hS | exact keepH (by assumption) hB2 | exact keepH (by assumption) hB3) (first
    | (have _g := hT2; clear _g; go_at_call 6; refine (put_plain (k0 := 0) (k1 := 0) (m := MX) (base := w.heap.size) (w := w2) (ps := []) prA u64_zero u64_zero (by decide) (Nat.le_trans hBd.size hB2.size) hT2 rises_nil (by simp) (by simp)).mono ?_; rintro e w3 ⟨b3, rfl, hT3, hB3, -⟩)
    | (go_at_call 5; refine ke.mono ?_; rintro e w2 ⟨b2, rfl, hT2, hB2⟩))
  obtain ⟨q0, q1, q2⟩ : w3.cell? ⟨N0, 0, none⟩ = some (.int .u64 0) ∧ w3.cell? ⟨N0, 1, none⟩ = some (.int .u64 0) ∧ w3.cell? ⟨N0, 2, none⟩ = some (.int .u64 MX) := by assumption
  have hq : (fun w' : World => w'.cell? ⟨N0, 0, none⟩ = some (.int .u64 0) ∧ w'.cell? ⟨N0, 1, none⟩ = some (.int .u64 0) ∧ w'.cell? ⟨N0, 2, none⟩ = some (.int .u64 MX)) w3 := ⟨q0, q1, q2⟩
  have hBw3 := hBd.trans ((hB2.trans (hB3.mono hB2.size)).mono hBd.size)
  rw [put_empty] at hT3
  clear hS ke hT2 hB2 hB3 hBd
  have kp := put_plain (k0 := 0) (k1 := 0) (m := MX) (base := w.heap.size) (w := w3) (ps := [prA]) prB u64_zero u64_zero (by decide) hBw3.size hT3 (rises_one _) (by simp) (by simp; decide)
  rw [getA] at kp
  simp only [prB] at kp
  go_wp2_with fail
  refine kp.mono ?_
  rintro e w4 ⟨b4, rfl, hT4, hB4, -⟩
  obtain ⟨r0, r1, r2⟩ := keepH hq hB4
  have hBw4 := hBw3.trans (hB4.mono hBw3.size)
  have hr4 : RisesL (putK [prA] prB) := put_rises prB (rises_one _)
  have hg4 := get_put hr4
  have hl4 := lenAB
  have hT4' : TP 0 0 MX w.heap.size w4 b4 (putK [prA] prB) := hT4
  have kg := get_plain (k := prB.1) u64_zero u64_zero (by decide) hT4' (by rw [hl4]; omega)
  rw [hg4] at kg
  simp only [prB] at kg
  have hT3' := hT3.below hB4
  clear kp q0 q1 q2 hq hBw3 hB4 hT4 hT3 hg4
  go_wp2_with fail
  refine kg.mono ?_
  rintro e w5 ⟨rfl, hB5⟩
  simp only [Option.getD_some, Option.isSome_some]
  have hBw5 := hBw4.trans (hB5.mono hBw4.size)
  have kl1 := len_plain (hT4'.below hB5) (by rw [hl4]; omega)
  rw [hl4] at kl1
  have hT3b := hT3'.below hB5
  clear kg r0 r1 r2 hBw4 hB5 hT4' hT3' hr4
  go_wp2_with fail
  refine kl1.mono ?_
  rintro e w6 ⟨rfl, hB6⟩
  have hBw6 := hBw5.trans (hB6.mono hBw5.size)
  have kl2 := len_plain (hT3b.below hB6) (by simp)
  have e1 : ([prA] : List Pr).length = 1 := rfl
  rw [e1] at kl2
  clear kl1 hBw5 hB6 hT3b
  go_wp2_with fail
  refine kl2.mono ?_
  rintro e w7 ⟨rfl, hB7⟩
  have hBw7 := hBw6.trans (hB7.mono hBw6.size)
  clear kl2 hBw6 hB7
  go_wp2_with fail
  go_ret
  exact ⟨rfl, hBw7⟩
end Go.Proofs.Ytfmbikmpobieoaa
