/- The node that a change is made to. -/
import Derived.Test.YtgldgdpgbfejmaaNk
namespace Go.Proofs.Ytgldgdpgbfejmaa
open Go.RowKit Go.Lib
set_option linter.unusedVariables false
set_option linter.unusedSimpArgs false
attribute [local irreducible] cnt
theorem toChange_own (base b : Nat) (ow tk : Option Nat) (lo l bk : Bool) (d nn : Nat) (pv kv : Value) (xs : List Pr) (ks : List Nat) (w : World) (h : NdV base w b (pt ow) bk d nn pv kv xs ks) (ht : TV w tk l) (ho : TV w ow lo) (he : Hid (ownB ow tk l = true)) :
    Calls Try.prog 55 #[at0 b, pt tk] w fun e w' => e = .returned (at0 b) ∧ w = w' := by
  have hc := owned_any base b ow tk lo l bk d nn pv kv xs ks w h ht ho
  rw [he.out] at hc
  unfold at0 at *
  go_enter Try.func55, Try.ntmps55
  go_wp2_with fail
  refine hc.mono ?_
  rintro e w' ⟨rfl, rfl⟩
  go_wp2_with fail
  go_ret
  exact ⟨rfl, rfl⟩
/-- the owner that a copy has -/
def newOw (tk : Option Nat) (l : Bool) : Option Nat := if l then tk else none
def NewPost5 (bk : Bool) (ow : Option Nat) (d nn : Nat) (xs : List Pr) (ks : List Nat) (w : World) (e : Ending) (w' : World) : Prop :=
  ∃ b' pv' kv', e = .returned (at0 b') ∧ NdV w.heap.size w' b' (pt ow) bk d nn pv' kv' xs ks ∧ Below w.heap.size w w'
theorem keep1 {w w' : World} {b : Nat} {v : Value} (h : w.cell? ⟨b, 1, none⟩ = some v) (hb : Below w.heap.size w w') : w'.cell? ⟨b, 1, none⟩ = some v :=
  (hb.cell (World.block_lt_of_cell? w _ h)).trans h
theorem NdV.new {w w2 : World} {bk : Bool} {d nn : Nat} {pv kv : Value} {xs : List Pr} {ks : List Nat} {B : Nat} (hp : Own B w2 pv xs) (hk : OwnK B w2 kv ks) (hB : B ≤ w2.heap.size) (o : Value) :
    NdV B (w2.alloc (.cells #[o, .bool bk, .int .u32 d, .int .u32 nn, pv, kv] 98)) w2.heap.size o bk d nn pv kv xs ks :=
  ⟨Blk.new w2 98 _, hB, World.ownsRow.alloc hp _, World.ownsRow.alloc hk _⟩
set_option maxRecDepth 100000 in
set_option maxHeartbeats 8000000 in
theorem toChange_new (base b : Nat) (ow tk : Option Nat) (lo l bk : Bool) (d nn : Nat) (pv kv : Value) (xs : List Pr) (ks : List Nat) (w : World) (h : NdV base w b (pt ow) bk d nn pv kv xs ks) (ht : TV w tk l) (ho : TV w ow lo) (he : Hid (ownB ow tk l = false)) (hn1 : xs.length ≤ 800) (hn2 : ks.length ≤ 800) :
    Calls Try.prog 55 #[at0 b, pt tk] w (NewPost5 bk (newOw tk l) d nn xs ks w) := by
  have hc := owned_any base b ow tk lo l bk d nn pv kv xs ks w h ht ho
  rw [he.out] at hc
  have hd : NdV base w.drew b (pt ow) bk d nn pv kv xs ks := h.drewN 1
  obtain ⟨-, c1, -⟩ := h.cells
  have ht1 : TV w.drew tk l := ht
  have hBe : Below w.heap.size w w.drew := (Below.refl _ _).drew
  unfold at0 at *
  clear h ho
  go_enter Try.func55, Try.ntmps55
  go_wp2_with fail
  refine hc.mono ?_
  rintro e w' ⟨rfl, rfl⟩
  go_wp2_with fail
  go_region_held3 (fun w' : World => w'.cell? ⟨b, 1, none⟩ = some (.bool bk)) (first | exact c1 | exact keep1 (by assumption) hB | go_keep) (first
    | (go_at_call 72; refine (copied_any base b (pt ow) bk d nn pv kv xs ks _ hd hn1 hn2).mono ?_; rintro e w1 ⟨p1, k1, rfl, hO1, hO2, hB⟩; replace ht1 := ht1.below hB; replace hBe := hBe.trans (hB.mono hBe.size); obtain ⟨A1, n1, q1, rfl⟩ := hO1.form; obtain ⟨A2, n2, q2, rfl⟩ := hO2.form))
  have hO1' : Own w.heap.size w1 (.slice A1 n1 q1) xs := hO1
  have hO2' : OwnK w.heap.size w1 (.slice A2 n2 q2) ks := hO2
  have h9 := NdV.new (bk := bk) (d := d) (nn := nn) (w := w) hO1' hO2' hBe.size (.pointer none)
  have hB9 := hBe.alloc hBe.size (.cells #[.pointer none, .bool bk, .int .u32 d, .int .u32 nn, .slice A1 n1 q1, .slice A2 n2 q2] 98)
  have ht9 := ht1.below ((Below.refl _ w1).alloc (Nat.le_refl _) (.cells #[.pointer none, .bool bk, .int .u32 d, .int .u32 nn, .slice A1 n1 q1, .slice A2 n2 q2] 98))
  generalize w1.alloc (.cells #[.pointer none, .bool bk, .int .u32 d, .int .u32 nn, .slice A1 n1 q1, .slice A2 n2 q2] 98) = W9 at *
  generalize w1.heap.size = N at *
  clear hO1 hO2 hO1' hO2' hBe ht1 hB hd c1 hc ht
  go_wp2_with fail
  refine (live_tv tk l W9 ht9).mono ?_
  rintro e w' ⟨rfl, rfl⟩
  cases l with
  | false =>
    go_wp2_with fail
    go_ret
    exact ⟨N, _, _, rfl, h9, hB9⟩
  | true =>
    obtain ⟨t, rfl⟩ : ∃ t, tk = some t := by
      rcases ht9 with ⟨_, e⟩ | ⟨t, p, id, e, _⟩
      · cases e
      · exact ⟨t, e⟩
    obtain ⟨c0, -⟩ := h9.cells
    have f0 := h9.blk.frozen 0
    have h10 := h9.setO (pt (some t))
    have hB10 := hB9.setCell (p := ⟨N, 0, none⟩) h9.ge (pt (some t))
    unfold pt at0 at *
    go_wp2_with fail
    go_ret
    exact ⟨N, _, _, rfl, h10, hB10⟩
end Go.Proofs.Ytgldgdpgbfejmaa
