/- What is read of a node. -/
import Derived.Test.YtgldgdpgbfejmaaNj
namespace Go.Proofs.Ytgldgdpgbfejmaa
open Go.RowKit Go.Lib
set_option linter.unusedVariables false
set_option linter.unusedSimpArgs false
attribute [local irreducible] cnt
theorem isBucket_nil (w : World) : Calls Try.prog 27 #[.pointer none] w fun e w' => e = .returned (.bool false) ∧ w = w' := by
  go_enter Try.func27, Try.ntmps27
  go_wp2_with fail
  go_ret
  exact ⟨rfl, rfl⟩
theorem data_nil (w : World) : Calls Try.prog 28 #[.pointer none] w fun e w' => e = .returned (.int .u32 0) ∧ w = w' := by
  go_enter Try.func28, Try.ntmps28
  go_wp2_with fail
  go_ret
  exact ⟨rfl, rfl⟩
theorem nodes_nil (w : World) : Calls Try.prog 29 #[.pointer none] w fun e w' => e = .returned (.int .u32 0) ∧ w = w' := by
  go_enter Try.func29, Try.ntmps29
  go_wp2_with fail
  go_ret
  exact ⟨rfl, rfl⟩
theorem len_nil (w : World) : Calls Try.prog 30 #[.pointer none] w fun e w' => e = .returned (.int .i64 0) ∧ w = w' := by
  go_enter Try.func30, Try.ntmps30
  go_wp2_with fail
  go_ret
  exact ⟨rfl, rfl⟩
theorem pairs_nil (w : World) : Calls Try.prog 16 #[.pointer none] w fun e w' => e = .returned (.slice none 0 0) ∧ w = w' := by
  go_enter Try.func16, Try.ntmps16
  go_wp2_with fail
  go_ret
  exact ⟨rfl, rfl⟩
theorem kids_nil (w : World) : Calls Try.prog 17 #[.pointer none] w fun e w' => e = .returned (.slice none 0 0) ∧ w = w' := by
  go_enter Try.func17, Try.ntmps17
  go_wp2_with fail
  go_ret
  exact ⟨rfl, rfl⟩
theorem hasChunk_nil (i : Int) (w : World) : Calls Try.prog 54 #[.pointer none, .int .i64 i] w fun e w' => e = .returned (.bool false) ∧ w = w' := by
  go_enter Try.func54, Try.ntmps54
  go_wp2_with fail
  go_ret
  exact ⟨rfl, rfl⟩
section
variable (base b : Nat) (o : Value) (bk : Bool) (d nn : Nat) (pv kv : Value) (xs : List Pr) (ks : List Nat) (w : World) (h : NdV base w b o bk d nn pv kv xs ks)
include h
theorem isBucket_any : Calls Try.prog 27 #[at0 b] w fun e w' => e = .returned (.bool bk) ∧ w = w' := by
  obtain ⟨c0, c1, c2, c3, c4, c5⟩ := h.cells
  unfold at0
  go_enter Try.func27, Try.ntmps27
  go_wp2_with fail
  go_ret
  exact ⟨rfl, rfl⟩
theorem data_any : Calls Try.prog 28 #[at0 b] w fun e w' => e = .returned (.int .u32 d) ∧ w = w' := by
  obtain ⟨c0, c1, c2, c3, c4, c5⟩ := h.cells
  unfold at0
  go_enter Try.func28, Try.ntmps28
  go_wp2_with fail
  go_ret
  exact ⟨rfl, rfl⟩
theorem nodes_any : Calls Try.prog 29 #[at0 b] w fun e w' => e = .returned (.int .u32 nn) ∧ w = w' := by
  obtain ⟨c0, c1, c2, c3, c4, c5⟩ := h.cells
  unfold at0
  go_enter Try.func29, Try.ntmps29
  go_wp2_with fail
  go_ret
  exact ⟨rfl, rfl⟩
theorem len_any (hn1 : xs.length ≤ 800) (hn2 : ks.length ≤ 800) : Calls Try.prog 30 #[at0 b] w fun e w' => e = .returned (.int .i64 (xs.length + ks.length : Nat)) ∧ ∃ k, w' = w.drewN k := by
  obtain ⟨c0, c1, c2, c3, c4, c5⟩ := h.cells
  obtain ⟨A1, q1, e1, -⟩ : ∃ A c, pv = .slice A xs.length c ∧ True := by
    rcases h.prs.2 with ⟨e, e0⟩ | ⟨g, cap, cur, e, _⟩
    · exact ⟨none, 0, by rw [e, e0], trivial⟩
    · exact ⟨_, _, e, trivial⟩
  obtain ⟨A2, q2, e2, -⟩ : ∃ A c, kv = .slice A ks.length c ∧ True := by
    rcases h.kds.2 with ⟨e, e0⟩ | ⟨g, cap, cur, e, _⟩
    · exact ⟨none, 0, by rw [e, e0], trivial⟩
    · exact ⟨_, _, e, trivial⟩
  subst e1 e2
  have F : IntKind.i64.wrap ((xs.length : Int) + (ks.length : Int)) = ((xs.length + ks.length : Nat) : Int) := by rw [IntWalk.i64_in _ (by omega)]; omega
  generalize xs.length + ks.length = N at *
  clear h
  unfold at0
  go_enter Try.func30, Try.ntmps30
  go_wp2_with fail
  go_quiet (fail)
  go_wp2_with fail
  go_ret
  exact ⟨rfl, nq, rfl⟩
theorem pairs_any (hn : xs.length ≤ 800) : Calls Try.prog 16 #[at0 b] w (CloneP xs w) := by
  obtain ⟨c0, c1, c2, c3, c4, c5⟩ := h.cells
  have hp := h.prs
  clear h
  unfold at0
  go_enter Try.func16, Try.ntmps16
  go_wp2_with fail
  refine (clone_pairs base pv xs w hp (by omega)).mono ?_
  rintro e w1 ⟨v1, rfl, hO1, hB⟩
  go_wp2_with fail
  go_ret
  exact ⟨v1, rfl, hO1, hB⟩
theorem kids_any (hn : ks.length ≤ 800) : Calls Try.prog 17 #[at0 b] w (CloneK ks w) := by
  obtain ⟨c0, c1, c2, c3, c4, c5⟩ := h.cells
  have hp := h.kds
  clear h
  unfold at0
  go_enter Try.func17, Try.ntmps17
  go_wp2_with fail
  refine (clone_kids base kv ks w hp (by omega)).mono ?_
  rintro e w1 ⟨v1, rfl, hO1, hB⟩
  go_wp2_with fail
  go_ret
  exact ⟨v1, rfl, hO1, hB⟩
theorem hasChunk_no (i : Int) (hi : bk = true ∨ i < 0 ∨ 32 ≤ i) : Calls Try.prog 54 #[at0 b, .int .i64 i] w fun e w' => e = .returned (.bool false) ∧ w = w' := by
  obtain ⟨c0, c1, c2, c3, c4, c5⟩ := h.cells
  clear h
  unfold at0
  cases bk with
  | true =>
    clear hi
    go_enter Try.func54, Try.ntmps54
    go_wp2_with fail
    go_ret
    exact ⟨rfl, rfl⟩
  | false =>
    simp only [Bool.false_eq_true, false_or] at hi
    by_cases h0 : i < 0
    · clear hi
      go_enter Try.func54, Try.ntmps54
      go_wp2_with fail
      go_ret
      exact ⟨rfl, rfl⟩
    · have h1 : 32 ≤ i := by omega
      have h2 : 0 ≤ i := by omega
      have h3 : decide (i < 32) = false := by simp; omega
      clear hi h0
      go_enter Try.func54, Try.ntmps54
      go_wp2_with fail
      go_ret
      exact ⟨rfl, rfl⟩
theorem hasChunk_yes (i : Nat) (hi : i < 32) (hb : bk = false) : Calls Try.prog 54 #[at0 b, .int .i64 i] w fun e w' => e = .returned (.bool true) ∧ w = w' := by
  obtain ⟨c0, c1, c2, c3, c4, c5⟩ := h.cells
  subst hb
  have h1 : (i : Int) < 32 := by omega
  clear h
  unfold at0
  go_enter Try.func54, Try.ntmps54
  go_wp2_with fail
  go_ret
  exact ⟨rfl, rfl⟩
end
/-- a pair, or the zero pair -/
def optP : Option Pr → Value
  | none => .agg #[.string ⟨#[]⟩, .string ⟨#[]⟩]
  | some p => p.v
def PairPost (r : Option Pr) (w : World) (e : Ending) (w' : World) : Prop := e = .returned (.tuple #[optP r, .bool r.isSome]) ∧ Below w.heap.size w w'
def KidPost (r : Option Nat) (w : World) (e : Ending) (w' : World) : Prop := e = .returned (.tuple #[pt r, .bool r.isSome]) ∧ Below w.heap.size w w'
theorem has_no (d : Nat) (i : Int) (w : World) (h : d < 4294967296) (hb : (d &&& onl i != 0) = false) : Calls Try.prog 63 #[.int .u32 d, .int .i64 i] w fun e w' => e = .returned (.bool false) ∧ w = w' :=
  (has_any d i w h).mono fun e w' ⟨he, hw⟩ => ⟨by rw [he, hb], hw⟩
set_option maxRecDepth 100000 in
theorem pair_none (nv : Value) (d : Nat) (i : Int) (w : World) (hd : d < 4294967296) (hb : Hid ((d &&& onl i != 0) = false)) (hdat : ∀ w', Below w.heap.size w w' → Calls Try.prog 28 #[nv] w' fun e w'' => e = .returned (.int .u32 d) ∧ w' = w'') :
    Calls Try.prog 24 #[nv, .int .i64 i] w (PairPost none w) := by
  have hbx := Blk.new w 27 #[.string ⟨#[]⟩, .string ⟨#[]⟩]
  have hBe := (Below.refl _ w).alloc (Nat.le_refl _) (.cells #[.string ⟨#[]⟩, .string ⟨#[]⟩] 27)
  have hdc := hdat _ hBe
  clear hdat
  go_enter Try.func24, Try.ntmps24
  go_wp2_with fail
  generalize w.alloc (.cells #[.string ⟨#[]⟩, .string ⟨#[]⟩] 27) = W at *
  refine hdc.mono ?_
  rintro e w' ⟨rfl, rfl⟩
  go_wp2_with fail
  refine (has_no d i _ hd hb.out).mono ?_
  rintro e w' ⟨rfl, rfl⟩
  have c0 : W.cell? ⟨w.heap.size, 0, none⟩ = some (.string ⟨#[]⟩) := hbx.cell 0
  have c1 : W.cell? ⟨w.heap.size, 1, none⟩ = some (.string ⟨#[]⟩) := hbx.cell 1
  have f0 := hbx.frozen 0
  have f1 := hbx.frozen 1
  go_wp2_with fail
  refine bodyPost_ret (v := .tuple #[.agg #[.string ⟨#[]⟩, .string ⟨#[]⟩], .bool false]) (by simp [results, Try.results24, go_sem, c0, c1]) rfl ⟨rfl, ?_⟩
  exact (hBe.setCell (p := ⟨w.heap.size, 0, none⟩) (Nat.le_refl _) _).setCell (p := ⟨w.heap.size, 1, none⟩) (Nat.le_refl _) _
theorem keepP {w w' : World} {b g r : Nat} {v2 v4 x y : Value} (h : w.cell? ⟨b, 2, none⟩ = some v2 ∧ w.cell? ⟨b, 4, none⟩ = some v4 ∧ w.cell? ⟨g, r * 2, none⟩ = some x ∧ w.cell? ⟨g, r * 2 + 1, none⟩ = some y) (hh : w'.heap = w.heap) :
    w'.cell? ⟨b, 2, none⟩ = some v2 ∧ w'.cell? ⟨b, 4, none⟩ = some v4 ∧ w'.cell? ⟨g, r * 2, none⟩ = some x ∧ w'.cell? ⟨g, r * 2 + 1, none⟩ = some y := by
  have e : ∀ a, w'.cell? a = w.cell? a := fun a => by simp [World.cell?, hh]
  rw [e, e, e, e]; exact h
set_option maxRecDepth 100000 in
set_option maxHeartbeats 4000000 in
theorem pair_some (base b : Nat) (o : Value) (bk : Bool) (d nn : Nat) (pv kv : Value) (xs : List Pr) (ks : List Nat) (w : World) (h : NdV base w b o bk d nn pv kv xs ks) (i : Nat) (hi : i < 32) (hd : d < 4294967296) (hb : Hid (d.testBit i = true)) (hr : cnt i d < xs.length) (hn : xs.length ≤ 800) :
    Calls Try.prog 24 #[at0 b, .int .i64 i] w (PairPost (some (pat xs (cnt i d))) w) := by
  obtain ⟨r, hrr⟩ : ∃ r, r = cnt i d := ⟨_, rfl⟩
  rw [← hrr] at hr ⊢
  have HR := Lib.hid hrr
  clear hrr
  have hbx := Blk.new w 27 #[.string ⟨#[]⟩, .string ⟨#[]⟩]
  have hBe := (Below.refl _ w).alloc (Nat.le_refl _) (.cells #[.string ⟨#[]⟩, .string ⟨#[]⟩] 27)
  have hN := h.below hBe
  have hlt := h.blk.lt
  obtain ⟨g, cap, cur, rfl, hg, hB, hc, hcm, hs, ht⟩ := own_blk h.prs (by omega)
  have hgl := hB.lt
  clear hB hs ht
  have hh : (w.alloc (.cells #[.string ⟨#[]⟩, .string ⟨#[]⟩] 27)).ownsRow base 27 2 (.slice (some ⟨g, 0, none⟩) xs.length cap) xs.length (flat xs) := hN.prs
  have c0 := hh.cellAt (r * 2) (by omega)
  have c1 := hh.cellAt (r * 2 + 1) (by omega)
  rw [(flat_get xs r _ (pat_get hr)).1] at c0
  rw [(flat_get xs r _ (pat_get hr)).2] at c1
  have hdat := data_any base b o bk d nn _ kv xs ks _ hN
  obtain ⟨-, -, d2, -, d4, -⟩ := hN.cells
  have B2 : (r : Int) < (xs.length : Int) := by omega
  unfold at0 at *
  clear h hN hh
  go_enter Try.func24, Try.ntmps24
  go_wp2_with fail
  generalize w.alloc (.cells #[.string ⟨#[]⟩, .string ⟨#[]⟩] 27) = W at *
  obtain ⟨N, hNN⟩ : ∃ N, N = w.heap.size := ⟨_, rfl⟩
  rw [← hNN] at hbx hBe hlt hgl ⊢
  have HN := Lib.hid hNN
  clear hNN
  refine hdat.mono ?_
  rintro e w' ⟨rfl, rfl⟩
  go_wp2_with fail
  refine (has_nat d i _ hd hi true hb.out).mono ?_
  rintro e w' ⟨rfl, rfl⟩
  go_wp2_with fail
  have z0 : W.cell? ⟨N, 0, none⟩ = some (.string ⟨#[]⟩) := hbx.cell 0
  have z1 : W.cell? ⟨N, 1, none⟩ = some (.string ⟨#[]⟩) := hbx.cell 1
  have y0 := hbx.frozen 0
  have y1 := hbx.frozen 1
  have n1 : ¬ (b = N) := by omega
  have n2 : ¬ (g = N) := by omega
  have n3 : ¬ (N = b) := by omega
  have n4 : ¬ (N = g) := by omega
  go_region_held3 (fun w' : World => w'.cell? ⟨b, 2, none⟩ = some (.int .u32 d) ∧ w'.cell? ⟨b, 4, none⟩ = some (.slice (some ⟨g, 0, none⟩) xs.length cap) ∧ w'.cell? ⟨g, r * 2, none⟩ = some (.string (pat xs r).1) ∧ w'.cell? ⟨g, r * 2 + 1, none⟩ = some (.string (pat xs r).2)) (first | exact ⟨d2, d4, c0, c1⟩ | exact keepP (by assumption) rfl | go_keep) (first
    | (go_at_call 64; refine (rank_nat d i _ hd).mono ?_; rintro e w' ⟨rfl, k, rfl⟩; rw [← HR.out]))
  go_wp2_with fail
  refine bodyPost_ret (v := .tuple #[.agg #[.string (pat xs r).1, .string (pat xs r).2], .bool true]) (by simp [results, Try.results24, go_sem, z0, z1]) rfl ⟨rfl, ?_⟩
  rw [HN.out] at hBe
  have hBd : Below w.heap.size w (W.drewN (1 + k)) := ⟨hBe.os, hBe.tape, hBe.output, hBe.size, hBe.block⟩
  exact (hBd.setCell (p := ⟨N, 0, none⟩) (by rw [HN.out]; exact Nat.le_refl _) _).setCell (p := ⟨N, 1, none⟩) (by rw [HN.out]; exact Nat.le_refl _) _
set_option maxRecDepth 100000 in
theorem kid_none (nv : Value) (d : Nat) (i : Int) (w : World) (hd : d < 4294967296) (hb : Hid ((d &&& onl i != 0) = false)) (hdat : Calls Try.prog 29 #[nv] w fun e w'' => e = .returned (.int .u32 d) ∧ w = w'') :
    Calls Try.prog 25 #[nv, .int .i64 i] w (KidPost none w) := by
  go_enter Try.func25, Try.ntmps25
  go_wp2_with fail
  refine hdat.mono ?_
  rintro e w' ⟨rfl, rfl⟩
  go_wp2_with fail
  refine (has_no d i _ hd hb.out).mono ?_
  rintro e w' ⟨rfl, rfl⟩
  go_wp2_with fail
  go_ret2
  exact ⟨rfl, Below.refl _ _⟩
theorem kcs_get (ks : List Nat) (r k : Nat) (h : ks[r]? = some k) : (kcs ks)[r]? = some (.pointer (some ⟨k, 0, none⟩)) := by simp [kcs, h, at0]
set_option maxRecDepth 100000 in
set_option maxHeartbeats 4000000 in
theorem kid_some (base b : Nat) (o : Value) (bk : Bool) (d nn : Nat) (pv kv : Value) (xs : List Pr) (ks : List Nat) (w : World) (h : NdV base w b o bk d nn pv kv xs ks) (i k : Nat) (hi : i < 32) (hd : nn < 4294967296) (hb : Hid (nn.testBit i = true)) (hr : ks[cnt i nn]? = some k) (hn : ks.length ≤ 800) :
    Calls Try.prog 25 #[at0 b, .int .i64 i] w (KidPost (some k) w) := by
  obtain ⟨r, hrr⟩ : ∃ r, r = cnt i nn := ⟨_, rfl⟩
  rw [← hrr] at hr
  have HR := Lib.hid hrr
  clear hrr
  have hrl : r < ks.length := (List.getElem?_eq_some_iff.1 hr).1
  obtain ⟨g, cap, cur, rfl, hg, hB, hc, hcm, hs, ht⟩ := own_blk h.kds (by omega)
  clear hB hs ht
  have hh : w.ownsRow base 39 1 (.slice (some ⟨g, 0, none⟩) ks.length cap) ks.length (kcs ks) := h.kds
  have c0 := hh.cellAt r (by omega)
  rw [kcs_get ks r k hr] at c0
  have hdat := nodes_any base b o bk d nn pv _ xs ks _ h
  obtain ⟨-, -, -, d3, -, d5⟩ := h.cells
  have B2 : (r : Int) < (ks.length : Int) := by omega
  unfold at0 at *
  clear h hh hr
  go_enter Try.func25, Try.ntmps25
  go_wp2_with fail
  refine hdat.mono ?_
  rintro e w' ⟨rfl, rfl⟩
  go_wp2_with fail
  refine (has_nat nn i _ hd hi true hb.out).mono ?_
  rintro e w' ⟨rfl, rfl⟩
  go_wp2_with fail
  have hrk : ∀ w, Calls Try.prog 64 #[.int .u32 nn, .int .i64 i] w fun e w' => e = .returned (.int .i64 r) ∧ ∃ k, w' = w.drewN k := fun w => by rw [HR.out]; exact rank_nat nn i w hd
  go_quiet ((go_at_call 64; exact Calls.quiet_of (hrk _)))
  go_wp2_with fail
  go_ret2
  exact ⟨rfl, ⟨rfl, rfl, rfl, Nat.le_refl _, fun _ _ => rfl⟩⟩
theorem inner_any (w : World) : Calls Try.prog 26 #[] w fun e w' => e = .returned (at0 w.heap.size) ∧ NdV w.heap.size w' w.heap.size (pt none) false 0 0 (.slice none 0 0) (.slice none 0 0) [] [] ∧ Below w.heap.size w w' := by
  go_enter Try.func26, Try.ntmps26
  go_wp2_with fail
  go_ret
  exact ⟨rfl, ⟨Blk.new w 98 _, Nat.le_refl _, World.ownsRow_nil _ _ _ _, World.ownsRow_nil _ _ _ _⟩, (Below.refl _ _).alloc (Nat.le_refl _) _⟩
theorem bucket_any (w : World) : Calls Try.prog 20 #[] w fun e w' => e = .returned (at0 w.heap.size) ∧ NdV w.heap.size w' w.heap.size (pt none) true 0 0 (.slice none 0 0) (.slice none 0 0) [] [] ∧ Below w.heap.size w w' := by
  go_enter Try.func20, Try.ntmps20
  go_wp2_with fail
  go_ret
  exact ⟨rfl, ⟨Blk.new w 98 _, Nat.le_refl _, World.ownsRow_nil _ _ _ _, World.ownsRow_nil _ _ _ _⟩, (Below.refl _ _).alloc (Nat.le_refl _) _⟩
end Go.Proofs.Ytgldgdpgbfejmaa
/- The node that a change is made to. -/
namespace Go.Proofs.Ytgldgdpgbfejmaa
open Go.RowKit Go.Lib
set_option linter.unusedVariables false
set_option linter.unusedSimpArgs false
attribute [local irreducible] cnt
theorem toChange_own (base b : Nat) (ow tk : Option Nat) (lo l bk : Bool) (d nn : Nat) (pv kv : Value) (xs : List Pr) (ks : List Nat) (w : World) (h : NdV base w b (pt ow) bk d nn pv kv xs ks) (ht : TV w tk l) (ho : TV w ow lo) (he : Hid (ownB ow tk l = true)) :
    Calls Try.prog 55 #[at0 b, pt tk] w fun e w' => e = .returned (at0 b) ∧ w = w' := by
  have hc := owned_any base b ow tk lo l bk d nn pv kv xs ks w h ht ho
  rw [he.out] at hc
  unfold at0 at *
  go_enter Try.func55, Try.ntmps55
  go_wp2_with fail
  refine hc.mono ?_
  rintro e w' ⟨rfl, rfl⟩
  go_wp2_with fail
  go_ret
  exact ⟨rfl, rfl⟩
/-- the owner that a copy has -/
def newOw (tk : Option Nat) (l : Bool) : Option Nat := if l then tk else none
def NewPost5 (bk : Bool) (ow : Option Nat) (d nn : Nat) (xs : List Pr) (ks : List Nat) (w : World) (e : Ending) (w' : World) : Prop :=
  ∃ b' pv' kv', e = .returned (at0 b') ∧ NdV w.heap.size w' b' (pt ow) bk d nn pv' kv' xs ks ∧ Below w.heap.size w w'
theorem keep1 {w w' : World} {b : Nat} {v : Value} (h : w.cell? ⟨b, 1, none⟩ = some v) (hb : Below w.heap.size w w') : w'.cell? ⟨b, 1, none⟩ = some v :=
  (hb.cell (World.block_lt_of_cell? w _ h)).trans h
theorem NdV.new {w w2 : World} {bk : Bool} {d nn : Nat} {pv kv : Value} {xs : List Pr} {ks : List Nat} {B : Nat} (hp : Own B w2 pv xs) (hk : OwnK B w2 kv ks) (hB : B ≤ w2.heap.size) (o : Value) :
    NdV B (w2.alloc (.cells #[o, .bool bk, .int .u32 d, .int .u32 nn, pv, kv] 98)) w2.heap.size o bk d nn pv kv xs ks :=
  ⟨Blk.new w2 98 _, hB, World.ownsRow.alloc hp _, World.ownsRow.alloc hk _⟩
set_option maxRecDepth 100000 in
set_option maxHeartbeats 8000000 in
theorem toChange_new (base b : Nat) (ow tk : Option Nat) (lo l bk : Bool) (d nn : Nat) (pv kv : Value) (xs : List Pr) (ks : List Nat) (w : World) (h : NdV base w b (pt ow) bk d nn pv kv xs ks) (ht : TV w tk l) (ho : TV w ow lo) (he : Hid (ownB ow tk l = false)) (hn1 : xs.length ≤ 800) (hn2 : ks.length ≤ 800) :
    Calls Try.prog 55 #[at0 b, pt tk] w (NewPost5 bk (newOw tk l) d nn xs ks w) := by
  have hc := owned_any base b ow tk lo l bk d nn pv kv xs ks w h ht ho
  rw [he.out] at hc
  have hd : NdV base w.drew b (pt ow) bk d nn pv kv xs ks := h.drewN 1
  obtain ⟨-, c1, -⟩ := h.cells
  have ht1 : TV w.drew tk l := ht
  have hBe : Below w.heap.size w w.drew := (Below.refl _ _).drew
  unfold at0 at *
  clear h ho
  go_enter Try.func55, Try.ntmps55
  go_wp2_with fail
  refine hc.mono ?_
  rintro e w' ⟨rfl, rfl⟩
  go_wp2_with fail
  go_region_held3 (fun w' : World => w'.cell? ⟨b, 1, none⟩ = some (.bool bk)) (first | exact c1 | exact keep1 (by assumption) hB | go_keep) (first
    | (go_at_call 72; refine (copied_any base b (pt ow) bk d nn pv kv xs ks _ hd hn1 hn2).mono ?_; rintro e w1 ⟨p1, k1, rfl, hO1, hO2, hB⟩; replace ht1 := ht1.below hB; replace hBe := hBe.trans (hB.mono hBe.size); obtain ⟨A1, n1, q1, rfl⟩ := hO1.form; obtain ⟨A2, n2, q2, rfl⟩ := hO2.form))
  have hO1' : Own w.heap.size w1 (.slice A1 n1 q1) xs := hO1
  have hO2' : OwnK w.heap.size w1 (.slice A2 n2 q2) ks := hO2
  have h9 := NdV.new (bk := bk) (d := d) (nn := nn) (w := w) hO1' hO2' hBe.size (.pointer none)
  have hB9 := hBe.alloc hBe.size (.cells #[.pointer none, .bool bk, .int .u32 d, .int .u32 nn, .slice A1 n1 q1, .slice A2 n2 q2] 98)
  have ht9 := ht1.below ((Below.refl _ w1).alloc (Nat.le_refl _) (.cells #[.pointer none, .bool bk, .int .u32 d, .int .u32 nn, .slice A1 n1 q1, .slice A2 n2 q2] 98))
  generalize w1.alloc (.cells #[.pointer none, .bool bk, .int .u32 d, .int .u32 nn, .slice A1 n1 q1, .slice A2 n2 q2] 98) = W9 at *
  generalize w1.heap.size = N at *
  clear hO1 hO2 hO1' hO2' hBe ht1 hB hd c1 hc ht
  go_wp2_with fail
  refine (live_tv tk l W9 ht9).mono ?_
  rintro e w' ⟨rfl, rfl⟩
  cases l with
  | false =>
    go_wp2_with fail
    go_ret
    exact ⟨N, _, _, rfl, h9, hB9⟩
  | true =>
    obtain ⟨t, rfl⟩ : ∃ t, tk = some t := by
      rcases ht9 with ⟨_, e⟩ | ⟨t, p, id, e, _⟩
      · cases e
      · exact ⟨t, e⟩
    obtain ⟨c0, -⟩ := h9.cells
    have f0 := h9.blk.frozen 0
    have h10 := h9.setO (pt (some t))
    have hB10 := hB9.setCell (p := ⟨N, 0, none⟩) h9.ge (pt (some t))
    unfold pt at0 at *
    go_wp2_with fail
    go_ret
    exact ⟨N, _, _, rfl, h10, hB10⟩
end Go.Proofs.Ytgldgdpgbfejmaa
