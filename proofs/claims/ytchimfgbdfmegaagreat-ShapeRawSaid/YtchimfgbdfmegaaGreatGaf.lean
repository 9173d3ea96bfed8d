/- What is read of a node. -/
import Derived.Test.YtchimfgbdfmegaaGreatGae
import Derived.StillTailTactics
import Derived.Test.YtchimfgbdfmegaaGreatGab
namespace Go.Proofs.YtchimfgbdfmegaaGreat
open Go.RowKit Go.Lib
set_option linter.unusedVariables false
set_option maxRecDepth 100000
set_option maxRecDepth 100000
set_option linter.unusedSimpArgs false
attribute [local irreducible] cnt
theorem isBucket_nil (w : World) : Calls Tryz.prog 63 #[.pointer none] w fun e w' => e = .returned (.bool false) ∧ w = w' := by
  go_enter Tryz.func63, Tryz.ntmps63
  go_wp2_with fail
  go_ret
  exact ⟨rfl, rfl⟩
theorem data_nil (w : World) : Calls Tryz.prog 91 #[.pointer none] w fun e w' => e = .returned (.int .u32 0) ∧ w = w' := by
  go_enter Tryz.func91, Tryz.ntmps91
  go_wp2_with fail
  go_ret
  exact ⟨rfl, rfl⟩
theorem nodes_nil (w : World) : Calls Tryz.prog 92 #[.pointer none] w fun e w' => e = .returned (.int .u32 0) ∧ w = w' := by
  go_enter Tryz.func92, Tryz.ntmps92
  go_wp2_with fail
  go_ret
  exact ⟨rfl, rfl⟩
theorem len_nil (w : World) : Calls Tryz.prog 90 #[.pointer none] w fun e w' => e = .returned (.int .i64 0) ∧ w = w' := by
  go_enter Tryz.func90, Tryz.ntmps90
  go_wp2_with fail
  go_ret
  exact ⟨rfl, rfl⟩
theorem pairs_nil (w : World) : Calls Tryz.prog 57 #[.pointer none] w fun e w' => e = .returned (.slice none 0 0) ∧ w = w' := by
  go_enter Tryz.func57, Tryz.ntmps57
  go_wp2_with fail
  go_ret
  exact ⟨rfl, rfl⟩
theorem kids_nil (w : World) : Calls Tryz.prog 59 #[.pointer none] w fun e w' => e = .returned (.slice none 0 0) ∧ w = w' := by
  go_enter Tryz.func59, Tryz.ntmps59
  go_wp2_with fail
  go_ret
  exact ⟨rfl, rfl⟩
theorem hasChunk_nil (i : Int) (w : World) : Calls Tryz.prog 43 #[.pointer none, .int .i64 i] w fun e w' => e = .returned (.bool false) ∧ w = w' := by
  go_enter Tryz.func43, Tryz.ntmps43
  go_wp2_with fail
  go_ret
  exact ⟨rfl, rfl⟩
section
variable (base b : Nat) (o : Value) (bk : Bool) (d nn : Nat) (pv kv : Value) (xs : List Pr) (ks : List Nat) (w : World) (h : NdV base w b o bk d nn pv kv xs ks)
include h
theorem isBucket_any : Calls Tryz.prog 63 #[at0 b] w fun e w' => e = .returned (.bool bk) ∧ w = w' := by
  obtain ⟨c0, c1, c2, c3, c4, c5⟩ := h.cells
  unfold at0
  go_enter Tryz.func63, Tryz.ntmps63
  go_wp2_with fail
  go_ret
  exact ⟨rfl, rfl⟩
theorem data_any : Calls Tryz.prog 91 #[at0 b] w fun e w' => e = .returned (.int .u32 d) ∧ w = w' := by
  obtain ⟨c0, c1, c2, c3, c4, c5⟩ := h.cells
  unfold at0
  go_enter Tryz.func91, Tryz.ntmps91
  go_wp2_with fail
  go_ret
  exact ⟨rfl, rfl⟩
theorem nodes_any : Calls Tryz.prog 92 #[at0 b] w fun e w' => e = .returned (.int .u32 nn) ∧ w = w' := by
  obtain ⟨c0, c1, c2, c3, c4, c5⟩ := h.cells
  unfold at0
  go_enter Tryz.func92, Tryz.ntmps92
  go_wp2_with fail
  go_ret
  exact ⟨rfl, rfl⟩
theorem len_any (hn1 : xs.length ≤ 800) (hn2 : ks.length ≤ 800) : Calls Tryz.prog 90 #[at0 b] w fun e w' => e = .returned (.int .i64 (xs.length + ks.length : Nat)) ∧ ∃ k, w' = w.drewN k := by
  obtain ⟨c0, c1, c2, c3, c4, c5⟩ := h.cells
  obtain ⟨A1, q1, e1, -⟩ : ∃ A c, pv = .slice A xs.length c ∧ True := by
    rcases h.prs.2 with ⟨e, e0⟩ | ⟨g, cap, cur, e, _⟩
    · exact ⟨none, 0, by rw [e, e0], trivial⟩
    · exact ⟨_, _, e, trivial⟩
  obtain ⟨A2, q2, e2, -⟩ : ∃ A c, kv = .slice A ks.length c ∧ True := by
    rcases h.kds.2 with ⟨e, e0⟩ | ⟨g, cap, cur, e, _⟩
    · exact ⟨none, 0, by rw [e, e0], trivial⟩
    · exact ⟨_, _, e, trivial⟩
  subst e1 e2
  have F : IntKind.i64.wrap ((xs.length : Int) + (ks.length : Int)) = ((xs.length + ks.length : Nat) : Int) := by rw [IntWalk.i64_in _ (by omega)]; omega
  generalize xs.length + ks.length = N at *
  clear h
  unfold at0
  go_enter Tryz.func90, Tryz.ntmps90
  go_wp2_with fail
  go_quiet (fail)
  go_wp2_with fail
  go_ret
  exact ⟨rfl, nq, rfl⟩
theorem pairs_any (hn : xs.length ≤ 800) : Calls Tryz.prog 57 #[at0 b] w (CloneP xs w) := by
  obtain ⟨c0, c1, c2, c3, c4, c5⟩ := h.cells
  have hp := h.prs
  clear h
  unfold at0
  go_enter Tryz.func57, Tryz.ntmps57
  go_wp2_with fail
  refine (clone_pairs base pv xs w hp (by omega)).mono ?_
  rintro e w1 ⟨v1, rfl, hO1, hB⟩
  go_wp2_with fail
  go_ret
  exact ⟨v1, rfl, hO1, hB⟩
theorem kids_any (hn : ks.length ≤ 800) : Calls Tryz.prog 59 #[at0 b] w (CloneK ks w) := by
  obtain ⟨c0, c1, c2, c3, c4, c5⟩ := h.cells
  have hp := h.kds
  clear h
  unfold at0
  go_enter Tryz.func59, Tryz.ntmps59
  go_wp2_with fail
  refine (clone_kids base kv ks w hp (by omega)).mono ?_
  rintro e w1 ⟨v1, rfl, hO1, hB⟩
  go_wp2_with fail
  go_ret
  exact ⟨v1, rfl, hO1, hB⟩
theorem hasChunk_no (i : Int) (hi : bk = true ∨ i < 0 ∨ 32 ≤ i) : Calls Tryz.prog 43 #[at0 b, .int .i64 i] w fun e w' => e = .returned (.bool false) ∧ w = w' := by
  obtain ⟨c0, c1, c2, c3, c4, c5⟩ := h.cells
  clear h
  unfold at0
  cases bk with
  | true =>
    clear hi
    go_enter Tryz.func43, Tryz.ntmps43
    go_wp2_with fail
    go_ret
    exact ⟨rfl, rfl⟩
  | false =>
    simp only [Bool.false_eq_true, false_or] at hi
    by_cases h0 : i < 0
    · clear hi
      go_enter Tryz.func43, Tryz.ntmps43
      go_wp2_with fail
      go_ret
      exact ⟨rfl, rfl⟩
    · have h1 : 32 ≤ i := by omega
      have h2 : 0 ≤ i := by omega
      have h3 : decide (i < 32) = false := by simp; omega
      clear hi h0
      go_enter Tryz.func43, Tryz.ntmps43
      go_wp2_with fail
      go_ret
      exact ⟨rfl, rfl⟩
theorem hasChunk_yes (i : Nat) (hi : i < 32) (hb : bk = false) : Calls Tryz.prog 43 #[at0 b, .int .i64 i] w fun e w' => e = .returned (.bool true) ∧ w = w' := by
  obtain ⟨c0, c1, c2, c3, c4, c5⟩ := h.cells
  subst hb
  have h1 : (i : Int) < 32 := by omega
  clear h
  unfold at0
  go_enter Tryz.func43, Tryz.ntmps43
  go_wp2_with fail
  go_ret
  exact ⟨rfl, rfl⟩
end
/-- a pair, or the zero pair -/
def optP : Option Pr → Value
  | none => .agg #[.string ⟨#[]⟩, .string ⟨#[]⟩]
  | some p => p.v
def PairPost (r : Option Pr) (w : World) (e : Ending) (w' : World) : Prop := e = .returned (.tuple #[optP r, .bool r.isSome]) ∧ Below w.heap.size w w'
def KidPost (r : Option Nat) (w : World) (e : Ending) (w' : World) : Prop := e = .returned (.tuple #[pt r, .bool r.isSome]) ∧ Below w.heap.size w w'
theorem has_no (d : Nat) (i : Int) (w : World) (h : d < 4294967296) (hb : (d &&& onl i != 0) = false) : Calls Tryz.prog 72 #[.int .u32 d, .int .i64 i] w fun e w' => e = .returned (.bool false) ∧ w = w' :=
  (has_any d i w h).mono fun e w' ⟨he, hw⟩ => ⟨by rw [he, hb], hw⟩
set_option maxRecDepth 100000 in
theorem pair_none (nv : Value) (d : Nat) (i : Int) (w : World) (hd : d < 4294967296) (hb : Hid ((d &&& onl i != 0) = false)) (hdat : ∀ w', Below w.heap.size w w' → Calls Tryz.prog 91 #[nv] w' fun e w'' => e = .returned (.int .u32 d) ∧ w' = w'') :
    Calls Tryz.prog 80 #[nv, .int .i64 i] w (PairPost none w) := by
  have hbx := Blk.new w 52 #[.string ⟨#[]⟩, .string ⟨#[]⟩]
  have hBe := (Below.refl _ w).alloc (Nat.le_refl _) (.cells #[.string ⟨#[]⟩, .string ⟨#[]⟩] 52)
  have hdc := hdat _ hBe
  clear hdat
  go_enter Tryz.func80, Tryz.ntmps80
  go_wp2_with fail
  generalize w.alloc (.cells #[.string ⟨#[]⟩, .string ⟨#[]⟩] 52) = W at *
  refine hdc.mono ?_
  rintro e w' ⟨rfl, rfl⟩
  go_wp2_with fail
  refine (has_no d i _ hd hb.out).mono ?_
  rintro e w' ⟨rfl, rfl⟩
  have c0 : W.cell? ⟨w.heap.size, 0, none⟩ = some (.string ⟨#[]⟩) := hbx.cell 0
  have c1 : W.cell? ⟨w.heap.size, 1, none⟩ = some (.string ⟨#[]⟩) := hbx.cell 1
  have f0 := hbx.frozen 0
  have f1 := hbx.frozen 1
  go_wp2_with fail
  refine bodyPost_ret (v := .tuple #[.agg #[.string ⟨#[]⟩, .string ⟨#[]⟩], .bool false]) (by simp [results, Tryz.results80, go_sem, c0, c1]) rfl ⟨rfl, ?_⟩
  exact (hBe.setCell (p := ⟨w.heap.size, 0, none⟩) (Nat.le_refl _) _).setCell (p := ⟨w.heap.size, 1, none⟩) (Nat.le_refl _) _
theorem keepP {w w' : World} {b g r : Nat} {v2 v4 x y : Value} (h : w.cell? ⟨b, 2, none⟩ = some v2 ∧ w.cell? ⟨b, 4, none⟩ = some v4 ∧ w.cell? ⟨g, r * 2, none⟩ = some x ∧ w.cell? ⟨g, r * 2 + 1, none⟩ = some y) (hh : w'.heap = w.heap) :
    w'.cell? ⟨b, 2, none⟩ = some v2 ∧ w'.cell? ⟨b, 4, none⟩ = some v4 ∧ w'.cell? ⟨g, r * 2, none⟩ = some x ∧ w'.cell? ⟨g, r * 2 + 1, none⟩ = some y := by
  have e : ∀ a, w'.cell? a = w.cell? a := fun a => by simp [World.cell?, hh]
  rw [e, e, e, e]; exact h
set_option maxRecDepth 100000 in
set_option maxHeartbeats 4000000 in
theorem pair_some (base b : Nat) (o : Value) (bk : Bool) (d nn : Nat) (pv kv : Value) (xs : List Pr) (ks : List Nat) (w : World) (h : NdV base w b o bk d nn pv kv xs ks) (i : Nat) (hi : i < 32) (hd : d < 4294967296) (hb : Hid (d.testBit i = true)) (hr : cnt i d < xs.length) (hn : xs.length ≤ 800) :
    Calls Tryz.prog 80 #[at0 b, .int .i64 i] w (PairPost (some (pat xs (cnt i d))) w) := by
  obtain ⟨r, hrr⟩ : ∃ r, r = cnt i d := ⟨_, rfl⟩
  rw [← hrr] at hr ⊢
  have HR := Lib.hid hrr
  clear hrr
  have hbx := Blk.new w 52 #[.string ⟨#[]⟩, .string ⟨#[]⟩]
  have hBe := (Below.refl _ w).alloc (Nat.le_refl _) (.cells #[.string ⟨#[]⟩, .string ⟨#[]⟩] 52)
  have hN := h.below hBe
  have hlt := h.blk.lt
  obtain ⟨g, cap, cur, rfl, hg, hB, hc, hcm, hs, ht⟩ := own_blk h.prs (by omega)
  have hgl := hB.lt
  clear hB hs ht
  have hh : (w.alloc (.cells #[.string ⟨#[]⟩, .string ⟨#[]⟩] 52)).ownsRow base 52 2 (.slice (some ⟨g, 0, none⟩) xs.length cap) xs.length (flat xs) := hN.prs
  have c0 := hh.cellAt (r * 2) (by omega)
  have c1 := hh.cellAt (r * 2 + 1) (by omega)
  rw [(flat_get xs r _ (pat_get hr)).1] at c0
  rw [(flat_get xs r _ (pat_get hr)).2] at c1
  have hdat := data_any base b o bk d nn _ kv xs ks _ hN
  obtain ⟨-, -, d2, -, d4, -⟩ := hN.cells
  have B2 : (r : Int) < (xs.length : Int) := by omega
  unfold at0 at *
  clear h hN hh
  go_enter Tryz.func80, Tryz.ntmps80
  go_wp2_with fail
  generalize w.alloc (.cells #[.string ⟨#[]⟩, .string ⟨#[]⟩] 52) = W at *
  obtain ⟨N, hNN⟩ : ∃ N, N = w.heap.size := ⟨_, rfl⟩
  rw [← hNN] at hbx hBe hlt hgl ⊢
  have HN := Lib.hid hNN
  clear hNN
  refine hdat.mono ?_
  rintro e w' ⟨rfl, rfl⟩
  go_wp2_with fail
  refine (has_nat d i _ hd hi true hb.out).mono ?_
  rintro e w' ⟨rfl, rfl⟩
  go_wp2_with fail
  have z0 : W.cell? ⟨N, 0, none⟩ = some (.string ⟨#[]⟩) := hbx.cell 0
  have z1 : W.cell? ⟨N, 1, none⟩ = some (.string ⟨#[]⟩) := hbx.cell 1
  have y0 := hbx.frozen 0
  have y1 := hbx.frozen 1
  have n1 : ¬ (b = N) := by omega
  have n2 : ¬ (g = N) := by omega
  have n3 : ¬ (N = b) := by omega
  have n4 : ¬ (N = g) := by omega
  go_region_held3 (fun w' : World => w'.cell? ⟨b, 2, none⟩ = some (.int .u32 d) ∧ w'.cell? ⟨b, 4, none⟩ = some (.slice (some ⟨g, 0, none⟩) xs.length cap) ∧ w'.cell? ⟨g, r * 2, none⟩ = some (.string (pat xs r).1) ∧ w'.cell? ⟨g, r * 2 + 1, none⟩ = some (.string (pat xs r).2)) (first | exact ⟨d2, d4, c0, c1⟩ | exact keepP (by assumption) rfl | go_keep) (first
    | (go_at_call 71; refine (rank_nat d i _ hd).mono ?_; rintro e w' ⟨rfl, k, rfl⟩; rw [← HR.out]))
  go_wp2_with fail
  refine bodyPost_ret (v := .tuple #[.agg #[.string (pat xs r).1, .string (pat xs r).2], .bool true]) (by simp [results, Tryz.results80, go_sem, z0, z1]) rfl ⟨rfl, ?_⟩
  rw [HN.out] at hBe
  have hBd : Below w.heap.size w (W.drewN (1 + k)) := ⟨hBe.os, hBe.tape, hBe.output, hBe.size, hBe.block⟩
  exact (hBd.setCell (p := ⟨N, 0, none⟩) (by rw [HN.out]; exact Nat.le_refl _) _).setCell (p := ⟨N, 1, none⟩) (by rw [HN.out]; exact Nat.le_refl _) _
set_option maxRecDepth 100000 in
theorem kid_none (nv : Value) (d : Nat) (i : Int) (w : World) (hd : d < 4294967296) (hb : Hid ((d &&& onl i != 0) = false)) (hdat : Calls Tryz.prog 92 #[nv] w fun e w'' => e = .returned (.int .u32 d) ∧ w = w'') :
    Calls Tryz.prog 82 #[nv, .int .i64 i] w (KidPost none w) := by
  go_enter Tryz.func82, Tryz.ntmps82
  go_wp2_with fail
  refine hdat.mono ?_
  rintro e w' ⟨rfl, rfl⟩
  go_wp2_with fail
  refine (has_no d i _ hd hb.out).mono ?_
  rintro e w' ⟨rfl, rfl⟩
  go_wp2_with fail
  go_ret2
  exact ⟨rfl, Below.refl _ _⟩
theorem kcs_get (ks : List Nat) (r k : Nat) (h : ks[r]? = some k) : (kcs ks)[r]? = some (.pointer (some ⟨k, 0, none⟩)) := by simp [kcs, h, at0]
set_option maxRecDepth 100000 in
set_option maxHeartbeats 4000000 in
theorem kid_some (base b : Nat) (o : Value) (bk : Bool) (d nn : Nat) (pv kv : Value) (xs : List Pr) (ks : List Nat) (w : World) (h : NdV base w b o bk d nn pv kv xs ks) (i k : Nat) (hi : i < 32) (hd : nn < 4294967296) (hb : Hid (nn.testBit i = true)) (hr : ks[cnt i nn]? = some k) (hn : ks.length ≤ 800) :
    Calls Tryz.prog 82 #[at0 b, .int .i64 i] w (KidPost (some k) w) := by
  obtain ⟨r, hrr⟩ : ∃ r, r = cnt i nn := ⟨_, rfl⟩
  rw [← hrr] at hr
  have HR := Lib.hid hrr
  clear hrr
  have hrl : r < ks.length := (List.getElem?_eq_some_iff.1 hr).1
  obtain ⟨g, cap, cur, rfl, hg, hB, hc, hcm, hs, ht⟩ := own_blk h.kds (by omega)
  clear hB hs ht
  have hh : w.ownsRow base 29 1 (.slice (some ⟨g, 0, none⟩) ks.length cap) ks.length (kcs ks) := h.kds
  have c0 := hh.cellAt r (by omega)
  rw [kcs_get ks r k hr] at c0
  have hdat := nodes_any base b o bk d nn pv _ xs ks _ h
  obtain ⟨-, -, -, d3, -, d5⟩ := h.cells
  have B2 : (r : Int) < (ks.length : Int) := by omega
  unfold at0 at *
  clear h hh hr
  go_enter Tryz.func82, Tryz.ntmps82
  go_wp2_with fail
  refine hdat.mono ?_
  rintro e w' ⟨rfl, rfl⟩
  go_wp2_with fail
  refine (has_nat nn i _ hd hi true hb.out).mono ?_
  rintro e w' ⟨rfl, rfl⟩
  go_wp2_with fail
  have hrk : ∀ w, Calls Tryz.prog 71 #[.int .u32 nn, .int .i64 i] w fun e w' => e = .returned (.int .i64 r) ∧ ∃ k, w' = w.drewN k := fun w => by rw [HR.out]; exact rank_nat nn i w hd
  go_quiet ((go_at_call 71; exact Calls.quiet_of (hrk _)))
  go_wp2_with fail
  go_ret2
  exact ⟨rfl, ⟨rfl, rfl, rfl, Nat.le_refl _, fun _ _ => rfl⟩⟩
theorem inner_any (w : World) : Calls Tryz.prog 24 #[] w fun e w' => e = .returned (at0 w.heap.size) ∧ NdV w.heap.size w' w.heap.size (pt none) false 0 0 (.slice none 0 0) (.slice none 0 0) [] [] ∧ Below w.heap.size w w' := by
  go_enter Tryz.func24, Tryz.ntmps24
  go_wp2_with fail
  go_ret
  exact ⟨rfl, ⟨Blk.new w 100 _, Nat.le_refl _, World.ownsRow_nil _ _ _ _, World.ownsRow_nil _ _ _ _⟩, (Below.refl _ _).alloc (Nat.le_refl _) _⟩
theorem bucket_any (w : World) : Calls Tryz.prog 39 #[] w fun e w' => e = .returned (at0 w.heap.size) ∧ NdV w.heap.size w' w.heap.size (pt none) true 0 0 (.slice none 0 0) (.slice none 0 0) [] [] ∧ Below w.heap.size w w' := by
  go_enter Tryz.func39, Tryz.ntmps39
  go_wp2_with fail
  go_ret
  exact ⟨rfl, ⟨Blk.new w 100 _, Nat.le_refl _, World.ownsRow_nil _ _ _ _, World.ownsRow_nil _ _ _ _⟩, (Below.refl _ _).alloc (Nat.le_refl _) _⟩
end Go.Proofs.YtchimfgbdfmegaaGreat
/- The node that a change is made to. -/
namespace Go.Proofs.YtchimfgbdfmegaaGreat
open Go.RowKit Go.Lib
set_option linter.unusedVariables false
set_option maxRecDepth 100000
set_option maxRecDepth 100000
set_option linter.unusedSimpArgs false
attribute [local irreducible] cnt
theorem toChange_own (base b : Nat) (ow tk : Option Nat) (lo l bk : Bool) (d nn : Nat) (pv kv : Value) (xs : List Pr) (ks : List Nat) (w : World) (h : NdV base w b (pt ow) bk d nn pv kv xs ks) (ht : TV w tk l) (ho : TV w ow lo) (he : Hid (ownB ow tk l = true)) :
    Calls Tryz.prog 44 #[at0 b, pt tk] w fun e w' => e = .returned (at0 b) ∧ w = w' := by
  have hc := owned_any base b ow tk lo l bk d nn pv kv xs ks w h ht ho
  rw [he.out] at hc
  unfold at0 at *
  go_enter Tryz.func44, Tryz.ntmps44
  go_wp2_with fail
  refine hc.mono ?_
  rintro e w' ⟨rfl, rfl⟩
  go_wp2_with fail
  go_ret
  exact ⟨rfl, rfl⟩
/-- the owner that a copy has -/
def newOw (tk : Option Nat) (l : Bool) : Option Nat := if l then tk else none
def NewPost5 (bk : Bool) (ow : Option Nat) (d nn : Nat) (xs : List Pr) (ks : List Nat) (w : World) (e : Ending) (w' : World) : Prop :=
  ∃ b' pv' kv', e = .returned (at0 b') ∧ NdV w.heap.size w' b' (pt ow) bk d nn pv' kv' xs ks ∧ Below w.heap.size w w'
theorem keep1 {w w' : World} {b : Nat} {v : Value} (h : w.cell? ⟨b, 1, none⟩ = some v) (hb : Below w.heap.size w w') : w'.cell? ⟨b, 1, none⟩ = some v :=
  (hb.cell (World.block_lt_of_cell? w _ h)).trans h
theorem NdV.new {w w2 : World} {bk : Bool} {d nn : Nat} {pv kv : Value} {xs : List Pr} {ks : List Nat} {B : Nat} (hp : Own B w2 pv xs) (hk : OwnK B w2 kv ks) (hB : B ≤ w2.heap.size) (o : Value) :
    NdV B (w2.alloc (.cells #[o, .bool bk, .int .u32 d, .int .u32 nn, pv, kv] 100)) w2.heap.size o bk d nn pv kv xs ks :=
  ⟨Blk.new w2 100 _, hB, World.ownsRow.alloc hp _, World.ownsRow.alloc hk _⟩
set_option maxRecDepth 100000 in
set_option maxHeartbeats 8000000 in
theorem toChange_new (base b : Nat) (ow tk : Option Nat) (lo l bk : Bool) (d nn : Nat) (pv kv : Value) (xs : List Pr) (ks : List Nat) (w : World) (h : NdV base w b (pt ow) bk d nn pv kv xs ks) (ht : TV w tk l) (ho : TV w ow lo) (he : Hid (ownB ow tk l = false)) (hn1 : xs.length ≤ 800) (hn2 : ks.length ≤ 800) :
    Calls Tryz.prog 44 #[at0 b, pt tk] w (NewPost5 bk (newOw tk l) d nn xs ks w) := by
  have hc := owned_any base b ow tk lo l bk d nn pv kv xs ks w h ht ho
  rw [he.out] at hc
  have hd : NdV base w.drew b (pt ow) bk d nn pv kv xs ks := h.drewN 1
  obtain ⟨-, c1, -⟩ := h.cells
  have ht1 : TV w.drew tk l := ht
  have hBe : Below w.heap.size w w.drew := (Below.refl _ _).drew
  unfold at0 at *
  clear h ho
  go_enter Tryz.func44, Tryz.ntmps44
  go_wp2_with fail
  refine hc.mono ?_
  rintro e w' ⟨rfl, rfl⟩
  go_wp2_with fail
  go_region_held3 (fun w' : World => w'.cell? ⟨b, 1, none⟩ = some (.bool bk)) (first | exact c1 | exact keep1 (by assumption) hB | go_keep) (first
    | (go_at_call 70; refine (copied_any base b (pt ow) bk d nn pv kv xs ks _ hd hn1 hn2).mono ?_; rintro e w1 ⟨p1, k1, rfl, hO1, hO2, hB⟩; replace ht1 := ht1.below hB; replace hBe := hBe.trans (hB.mono hBe.size); obtain ⟨A1, n1, q1, rfl⟩ := hO1.form; obtain ⟨A2, n2, q2, rfl⟩ := hO2.form))
  have hO1' : Own w.heap.size w1 (.slice A1 n1 q1) xs := hO1
  have hO2' : OwnK w.heap.size w1 (.slice A2 n2 q2) ks := hO2
  have h9 := NdV.new (bk := bk) (d := d) (nn := nn) (w := w) hO1' hO2' hBe.size (.pointer none)
  have hB9 := hBe.alloc hBe.size (.cells #[.pointer none, .bool bk, .int .u32 d, .int .u32 nn, .slice A1 n1 q1, .slice A2 n2 q2] 100)
  have ht9 := ht1.below ((Below.refl _ w1).alloc (Nat.le_refl _) (.cells #[.pointer none, .bool bk, .int .u32 d, .int .u32 nn, .slice A1 n1 q1, .slice A2 n2 q2] 100))
  generalize w1.alloc (.cells #[.pointer none, .bool bk, .int .u32 d, .int .u32 nn, .slice A1 n1 q1, .slice A2 n2 q2] 100) = W9 at *
  generalize w1.heap.size = N at *
  clear hO1 hO2 hO1' hO2' hBe ht1 hB hd c1 hc ht
  go_wp2_with fail
  refine (live_tv tk l W9 ht9).mono ?_
  rintro e w' ⟨rfl, rfl⟩
  cases l with
  | false =>
    go_wp2_with fail
    go_ret
    exact ⟨N, _, _, rfl, h9, hB9⟩
  | true =>
    obtain ⟨t, rfl⟩ : ∃ t, tk = some t := by
      rcases ht9 with ⟨_, e⟩ | ⟨t, p, id, e, _⟩
      · cases e
      · exact ⟨t, e⟩
    obtain ⟨c0, -⟩ := h9.cells
    have f0 := h9.blk.frozen 0
    have h10 := h9.setO (pt (some t))
    have hB10 := hB9.setCell (p := ⟨N, 0, none⟩) h9.ge (pt (some t))
    unfold pt at0 at *
    go_wp2_with fail
    go_ret
    exact ⟨N, _, _, rfl, h10, hB10⟩
end Go.Proofs.YtchimfgbdfmegaaGreat
/- The changes of a node: SetPair, SetKid, Clear. -/
namespace Go.Proofs.YtchimfgbdfmegaaGreat
open Go.RowKit Go.Lib
set_option linter.unusedVariables false
set_option maxRecDepth 100000
set_option maxRecDepth 100000
set_option linter.unusedSimpArgs false
attribute [local irreducible] cnt
/-- where a change is made: in place, or in a new node -/
structure Chg (own : Bool) (b : Nat) (pv kv : Value) (b1 : Nat) (pv1 kv1 : Value) (w w' : World) : Prop where
  place : own = true → b1 = b
  new : own = false → w.heap.size ≤ b1
  foot : ∀ x ∈ foot b1 pv1 kv1, (own = true ∧ x ∈ YtchimfgbdfmegaaGreat.foot b pv kv) ∨ w.heap.size ≤ x
  keep : Keep (if own = true then YtchimfgbdfmegaaGreat.foot b pv kv else []) w w'
theorem Chg.moves {own : Bool} {b b1 : Nat} {pv kv pv1 kv1 pv2 kv2 : Value} {w w1 w2 : World} (h : Chg own b pv kv b1 pv1 kv1 w w1) (m : Moves b1 pv1 kv1 pv2 kv2 w1 w2) : Chg own b pv kv b1 pv2 kv2 w w2 := by
  have hs := h.keep.all.size
  refine ⟨h.place, h.new, fun x hx => ?_, h.keep.comp m.2.2 fun y hy => ?_⟩
  · simp only [YtchimfgbdfmegaaGreat.foot, List.mem_cons, List.mem_append, Option.mem_toList] at hx
    rcases hx with rfl | e | e
    · exact h.foot x (by simp [YtchimfgbdfmegaaGreat.foot])
    · rcases m.1 x e with e' | e'
      · exact h.foot x (by simp [YtchimfgbdfmegaaGreat.foot, e'])
      · exact .inr (by omega)
    · rcases m.2.1 x e with e' | e'
      · exact h.foot x (by simp [YtchimfgbdfmegaaGreat.foot, e'])
      · exact .inr (by omega)
  · rcases h.foot y hy with ⟨e, e'⟩ | e
    · left; rw [if_pos e]; exact e'
    · exact .inr e
theorem Chg.below {own : Bool} {b b1 : Nat} {pv kv pv1 kv1 : Value} {w0 w w1 : World} (h : Chg own b pv kv b1 pv1 kv1 w w1) (hb : Below w0.heap.size w0 w) : Chg own b pv kv b1 pv1 kv1 w0 w1 := by
  have hs := hb.size
  refine ⟨h.place, fun e => Nat.le_trans hs (h.new e), fun x hx => ?_, (Keep.of_below (X := if own = true then YtchimfgbdfmegaaGreat.foot b pv kv else []) hb).trans h.keep⟩
  rcases h.foot x hx with e | e
  · exact .inl e
  · exact .inr (by omega)
theorem NdV.base {B B' : Nat} {w : World} {b : Nat} {o : Value} {bk : Bool} {d nn : Nat} {pv kv : Value} {xs : List Pr} {ks : List Nat} (h : NdV B w b o bk d nn pv kv xs ks) (hb : B' ≤ B) : NdV B' w b o bk d nn pv kv xs ks :=
  ⟨h.blk, Nat.le_trans hb h.ge, h.prs.base hb, h.kds.base hb⟩
theorem NdV.footGe {B : Nat} {w : World} {b : Nat} {o : Value} {bk : Bool} {d nn : Nat} {pv kv : Value} {xs : List Pr} {ks : List Nat} (h : NdV B w b o bk d nn pv kv xs ks) : ∀ x ∈ foot b pv kv, B ≤ x := by
  intro x hx
  simp only [foot, List.mem_cons, List.mem_append, Option.mem_toList] at hx
  rcases hx with rfl | e | e
  · exact h.ge
  · exact own_ge h.prs x e
  · exact own_ge h.kds x e
theorem NdV.footLt {B : Nat} {w : World} {b : Nat} {o : Value} {bk : Bool} {d nn : Nat} {pv kv : Value} {xs : List Pr} {ks : List Nat} (h : NdV B w b o bk d nn pv kv xs ks) : ∀ x ∈ foot b pv kv, x < w.heap.size := by
  intro x hx
  simp only [foot, List.mem_cons, List.mem_append, Option.mem_toList] at hx
  rcases hx with rfl | e | e
  · exact h.blk.lt
  · exact (World.ownsRow.lt h.prs x e).2
  · exact (World.ownsRow.lt h.kds x e).2
/-- what a change leaves -/
def ChgPost (base : Nat) (own : Bool) (b : Nat) (pv kv : Value) (ow : Option Nat) (bk : Bool) (d nn : Nat) (xs : List Pr) (ks : List Nat) (w : World) (e : Ending) (w' : World) : Prop :=
  ∃ b1 pv1 kv1, e = .returned (at0 b1) ∧ NdV base w' b1 (pt ow) bk d nn pv1 kv1 xs ks ∧ Chg own b pv kv b1 pv1 kv1 w w'
theorem newOw_own {ow tk : Option Nat} {l : Bool} (h : ownB ow tk l = true) : newOw tk l = ow := by
  unfold ownB at h
  simp only [Bool.and_eq_true, decide_eq_true_eq] at h
  unfold newOw
  rw [h.1, h.2]; rfl
theorem toChange_any (base b : Nat) (ow tk : Option Nat) (lo l bk : Bool) (d nn : Nat) (pv kv : Value) (xs : List Pr) (ks : List Nat) (w : World) (h : NdV base w b (pt ow) bk d nn pv kv xs ks) (ht : TV w tk l) (ho : TV w ow lo) (hn1 : xs.length ≤ 800) (hn2 : ks.length ≤ 800) (hbase : base ≤ w.heap.size) :
    Calls Tryz.prog 44 #[at0 b, pt tk] w (ChgPost base (ownB ow tk l) b pv kv (newOw tk l) bk d nn xs ks w) := by
  cases he : ownB ow tk l with
  | true =>
    refine (toChange_own base b ow tk lo l bk d nn pv kv xs ks w h ht ho (Lib.hid he)).mono ?_
    rintro e w' ⟨rfl, rfl⟩
    refine ⟨b, pv, kv, rfl, by rw [newOw_own he]; exact h, fun _ => rfl, (fun e => by cases e), fun x hx => .inl ⟨rfl, hx⟩, Keep.refl _ _⟩
  | false =>
    refine (toChange_new base b ow tk lo l bk d nn pv kv xs ks w h ht ho (Lib.hid he) hn1 hn2).mono ?_
    rintro e w' ⟨b1, pv1, kv1, rfl, h1, hB⟩
    exact ⟨b1, pv1, kv1, rfl, h1.base hbase, (fun e => by cases e), fun _ => h1.ge, fun x hx => .inr (h1.footGe x hx), Keep.of_below hB⟩
/-- what is asked of a node's sets and lists, at chunk i -/
structure Fits (d nn : Nat) (xs : List Pr) (ks : List Nat) (i : Nat) : Prop where
  hd : d < 4294967296
  hn : nn < 4294967296
  rd : d.testBit i = true → cnt i d < xs.length
  rn : nn.testBit i = true → cnt i nn < ks.length
  ld : cnt i d ≤ xs.length
  ln : cnt i nn ≤ ks.length
  lx : xs.length ≤ 800
  lk : ks.length ≤ 800
set_option maxRecDepth 100000 in
set_option maxHeartbeats 4000000 in
theorem setPair_in (base b i : Nat) (p : Pr) (ow tk : Option Nat) (lo l : Bool) (d nn : Nat) (pv kv : Value) (xs : List Pr) (ks : List Nat) (w : World) (h : NdV base w b (pt ow) false d nn pv kv xs ks) (ht : TV w tk l) (ho : TV w ow lo) (hi : i < 32) (hf : Fits d nn xs ks i) (hbase : base ≤ w.heap.size) :
    Calls Tryz.prog 21 #[at0 b, pt tk, .int .i64 i, p.v] w (ChgPost base (ownB ow tk l) b pv kv (newOw tk l) false (d ||| onl (i : Int)) (clrB nn i) (setL d i p xs) (clrL nn i ks) w) := by
  have hBe := (Below.refl _ w).alloc (Nat.le_refl _) (.cells #[.string p.1, .string p.2] 52)
  have hbx := Blk.new w 52 #[.string p.1, .string p.2]
  have h1 := h.below hBe
  have ht1 := ht.below hBe
  have ho1 := ho.below hBe
  have hfl := h.footLt
  have HF := Lib.hid hf
  have HFL := Lib.hid hfl
  have lx := hf.lx
  have lk := hf.lk
  unfold Pr.v
  clear h ht ho hf hfl
  go_enter Tryz.func21, Tryz.ntmps21
  go_upto_region 1 with (fail)
  generalize w.alloc (.cells #[.string p.1, .string p.2] 52) = W at *
  obtain ⟨N, hN⟩ : ∃ N, N = w.heap.size := ⟨_, rfl⟩
  rw [← hN] at hbx ⊢
  have HN := Lib.hid hN
  clear hN
  go_wp2_with fail
  refine (hasChunk_yes base b (pt ow) false d nn pv kv xs ks W h1 i hi rfl).mono ?_
  rintro e w' ⟨rfl, rfl⟩
  go_wp2_with fail
  refine (toChange_any base b ow tk lo l false d nn pv kv xs ks W h1 ht1 ho1 lx lk (Nat.le_trans hbase hBe.size)).mono ?_
  rintro e w1 ⟨b1, pv1, kv1, rfl, h2, hc⟩
  have hbx1 : Blk w1 N 52 #[.string p.1, .string p.2] := hbx.keep hc.keep (by
    split
    · exact fun hm => by have := HFL.out N hm; have := HN.out; omega
    · simp)
  have b0 : w1.drew.cell? ⟨N, 0, none⟩ = some (.string p.1) := hbx1.cell 0
  have b1' : w1.drew.cell? ⟨N, 1, none⟩ = some (.string p.2) := hbx1.cell 1
  have e0 : w1.cell? ⟨N, 0, none⟩ = some (.string p.1) := hbx1.cell 0
  have e1 : w1.cell? ⟨N, 1, none⟩ = some (.string p.2) := hbx1.cell 1
  have h2d : NdV base w1.drew b1 (pt (newOw tk l)) false d nn pv1 kv1 xs ks := h2.drewN 1
  have hc0 := hc.below hBe
  have hcd : Chg (ownB ow tk l) b pv kv b1 pv1 kv1 w w1.drew := ⟨hc0.place, hc0.new, hc0.foot, hc0.keep.drew⟩
  have hbs : base ≤ w1.drew.heap.size := Nat.le_trans hbase hc0.keep.all.size
  clear h1 ht1 ho1 hc hc0 hbx hbx1 h2
  unfold at0
  go_wp2_with fail
  go_still_tail 5, (by kernel_rfl)
  change wpList _ _ _ _ _ w1.drew
  generalize w1.drew = W1 at *
  clear b0 b1' e0 e1
  go_wp2_with fail
  refine (setPair_any base b1 i p (pt (newOw tk l)) false d nn pv1 kv1 xs ks W1 h2d HF.out.hd HF.out.hn hi HF.out.rd HF.out.rn HF.out.ld lx lk hbs).mono ?_
  rintro e w2 ⟨rfl, pv2, kv2, h3, hm⟩
  have hc3 := hcd.moves hm
  clear hcd hm h2d
  go_wp2_with fail
  go_ret
  exact ⟨b1, pv2, kv2, rfl, h3, hc3⟩
set_option maxRecDepth 100000 in
set_option maxHeartbeats 4000000 in
theorem setPair_out (base b : Nat) (i : Int) (p : Pr) (o tv : Value) (bk : Bool) (d nn : Nat) (pv kv : Value) (xs : List Pr) (ks : List Nat) (w : World) (h : NdV base w b o bk d nn pv kv xs ks) (hi : bk = true ∨ i < 0 ∨ 32 ≤ i) :
    Calls Tryz.prog 21 #[at0 b, tv, .int .i64 i, p.v] w fun e w' => e = .returned (at0 b) ∧ Below w.heap.size w w' := by
  have hBe := (Below.refl _ w).alloc (Nat.le_refl _) (.cells #[.string p.1, .string p.2] 52)
  have h1 := h.below hBe
  have hc := hasChunk_no base b o bk d nn pv kv xs ks _ h1 i hi
  unfold Pr.v
  unfold at0 at *
  clear h h1 hi
  go_enter Tryz.func21, Tryz.ntmps21
  go_upto_region 1 with (fail)
  generalize w.alloc (.cells #[.string p.1, .string p.2] 52) = W at *
  go_wp2_with fail
  refine hc.mono ?_
  rintro e w' ⟨rfl, rfl⟩
  go_wp2_with fail
  go_ret
  exact ⟨rfl, hBe⟩
set_option maxRecDepth 100000 in
set_option maxHeartbeats 4000000 in
theorem setPair_nil (i : Int) (p : Pr) (tv : Value) (w : World) : Calls Tryz.prog 21 #[.pointer none, tv, .int .i64 i, p.v] w fun e w' => e = .returned (.pointer none) ∧ Below w.heap.size w w' := by
  have hBe := (Below.refl _ w).alloc (Nat.le_refl _) (.cells #[.string p.1, .string p.2] 52)
  have hc := hasChunk_nil i (w.alloc (.cells #[.string p.1, .string p.2] 52))
  unfold Pr.v
  go_enter Tryz.func21, Tryz.ntmps21
  go_upto_region 1 with (fail)
  generalize w.alloc (.cells #[.string p.1, .string p.2] 52) = W at *
  go_wp2_with fail
  refine hc.mono ?_
  rintro e w' ⟨rfl, rfl⟩
  go_wp2_with fail
  go_ret
  exact ⟨rfl, hBe⟩
set_option maxRecDepth 100000 in
set_option maxHeartbeats 4000000 in
theorem clear_in (base b i : Nat) (ow tk : Option Nat) (lo l : Bool) (d nn : Nat) (pv kv : Value) (xs : List Pr) (ks : List Nat) (w : World) (h : NdV base w b (pt ow) false d nn pv kv xs ks) (ht : TV w tk l) (ho : TV w ow lo) (hi : i < 32) (hf : Fits d nn xs ks i) (hbase : base ≤ w.heap.size) :
    Calls Tryz.prog 22 #[at0 b, pt tk, .int .i64 i] w (ChgPost base (ownB ow tk l) b pv kv (newOw tk l) false (clrB d i) (clrB nn i) (clrL d i xs) (clrL nn i ks) w) := by
  have HF := Lib.hid hf
  have lx := hf.lx
  have lk := hf.lk
  clear hf
  go_enter Tryz.func22, Tryz.ntmps22
  go_wp2_with fail
  refine (hasChunk_yes base b (pt ow) false d nn pv kv xs ks w h i hi rfl).mono ?_
  rintro e w' ⟨rfl, rfl⟩
  go_wp2_with fail
  refine (toChange_any base b ow tk lo l false d nn pv kv xs ks w h ht ho lx lk hbase).mono ?_
  rintro e w1 ⟨b1, pv1, kv1, rfl, h2, hc⟩
  clear h ht ho
  unfold at0
  go_wp2_with fail
  refine (clearPair_any base b1 i (pt (newOw tk l)) false d nn pv1 kv1 xs ks w1 h2 HF.out.hd hi HF.out.rd (by omega)).mono ?_
  rintro e w2 ⟨rfl, pv2, kv2, h3, hm⟩
  have hc3 := hc.moves hm
  clear hc hm h2
  go_wp2_with fail
  refine (clearKid_any base b1 i (pt (newOw tk l)) false (clrB d i) nn pv2 kv2 (clrL d i xs) ks w2 h3 HF.out.hn hi HF.out.rn (by omega)).mono ?_
  rintro e w3 ⟨rfl, pv3, kv3, h4, hm⟩
  have hc4 := hc3.moves hm
  clear hc3 hm h3
  go_wp2_with fail
  go_ret
  exact ⟨b1, pv3, kv3, rfl, h4, hc4⟩
theorem clear_out (base b : Nat) (i : Int) (o tv : Value) (bk : Bool) (d nn : Nat) (pv kv : Value) (xs : List Pr) (ks : List Nat) (w : World) (h : NdV base w b o bk d nn pv kv xs ks) (hi : bk = true ∨ i < 0 ∨ 32 ≤ i) :
    Calls Tryz.prog 22 #[at0 b, tv, .int .i64 i] w fun e w' => e = .returned (at0 b) ∧ w = w' := by
  have hc := hasChunk_no base b o bk d nn pv kv xs ks _ h i hi
  unfold at0 at *
  clear h hi
  go_enter Tryz.func22, Tryz.ntmps22
  go_wp2_with fail
  refine hc.mono ?_
  rintro e w' ⟨rfl, rfl⟩
  go_wp2_with fail
  go_ret
  exact ⟨rfl, rfl⟩
theorem clear_nil (i : Int) (tv : Value) (w : World) : Calls Tryz.prog 22 #[.pointer none, tv, .int .i64 i] w fun e w' => e = .returned (.pointer none) ∧ w = w' := by
  have hc := hasChunk_nil i w
  go_enter Tryz.func22, Tryz.ntmps22
  go_wp2_with fail
  refine hc.mono ?_
  rintro e w' ⟨rfl, rfl⟩
  go_wp2_with fail
  go_ret
  exact ⟨rfl, rfl⟩
set_option maxRecDepth 100000 in
set_option maxHeartbeats 4000000 in
theorem setKid_in (base b i k : Nat) (ow tk : Option Nat) (lo l : Bool) (d nn : Nat) (pv kv : Value) (xs : List Pr) (ks : List Nat) (w : World) (h : NdV base w b (pt ow) false d nn pv kv xs ks) (ht : TV w tk l) (ho : TV w ow lo) (hi : i < 32) (hf : Fits d nn xs ks i) (hbase : base ≤ w.heap.size) :
    Calls Tryz.prog 23 #[at0 b, pt tk, .int .i64 i, at0 k] w (ChgPost base (ownB ow tk l) b pv kv (newOw tk l) false (clrB d i) (nn ||| onl (i : Int)) (clrL d i xs) (setL nn i k ks) w) := by
  have HF := Lib.hid hf
  have lx := hf.lx
  have lk := hf.lk
  have hcy := hasChunk_yes base b (pt ow) false d nn pv kv xs ks w h i hi rfl
  have htc := toChange_any base b ow tk lo l false d nn pv kv xs ks w h ht ho lx lk hbase
  clear hf h ht ho
  unfold at0 at *
  go_enter Tryz.func23, Tryz.ntmps23
  go_wp2_with fail
  refine hcy.mono ?_
  rintro e w' ⟨rfl, rfl⟩
  go_wp2_with fail
  refine htc.mono ?_
  rintro e w1 ⟨b1, pv1, kv1, rfl, h2, hc⟩
  have hbs : base ≤ w1.heap.size := Nat.le_trans hbase hc.keep.all.size
  have hsk := setKid_any base b1 i k (pt (newOw tk l)) false d nn pv1 kv1 xs ks w1 h2 HF.out.hd HF.out.hn hi HF.out.rd HF.out.rn HF.out.ln lx lk hbs
  unfold at0 at *
  go_wp2_with fail
  refine hsk.mono ?_
  rintro e w2 ⟨rfl, pv2, kv2, h3, hm⟩
  have hc3 := hc.moves hm
  clear hc hm h2 hsk
  go_wp2_with fail
  go_ret
  exact ⟨b1, pv2, kv2, rfl, h3, hc3⟩
theorem setKid_out (base b : Nat) (i : Int) (k : Nat) (o tv : Value) (bk : Bool) (d nn : Nat) (pv kv : Value) (xs : List Pr) (ks : List Nat) (w : World) (h : NdV base w b o bk d nn pv kv xs ks) (hi : bk = true ∨ i < 0 ∨ 32 ≤ i) :
    Calls Tryz.prog 23 #[at0 b, tv, .int .i64 i, at0 k] w fun e w' => e = .returned (at0 b) ∧ w = w' := by
  have hc := hasChunk_no base b o bk d nn pv kv xs ks _ h i hi
  unfold at0 at *
  clear h hi
  go_enter Tryz.func23, Tryz.ntmps23
  go_wp2_with fail
  refine hc.mono ?_
  rintro e w' ⟨rfl, rfl⟩
  go_wp2_with fail
  go_ret
  exact ⟨rfl, rfl⟩
theorem setKid_nil (i : Int) (k : Nat) (tv : Value) (w : World) : Calls Tryz.prog 23 #[.pointer none, tv, .int .i64 i, at0 k] w fun e w' => e = .returned (.pointer none) ∧ w = w' := by
  have hc := hasChunk_nil i w
  unfold at0
  go_enter Tryz.func23, Tryz.ntmps23
  go_wp2_with fail
  refine hc.mono ?_
  rintro e w' ⟨rfl, rfl⟩
  go_wp2_with fail
  go_ret
  exact ⟨rfl, rfl⟩
/-- with a nil child SetKid is Clear -/
theorem setKid_clear (nv tv : Value) (i : Int) (w : World) (R : Ending → World → Prop) (hc : Calls Tryz.prog 22 #[nv, tv, .int .i64 i] w fun e w' => ∃ a, e = .returned (.pointer a) ∧ R (.returned (.pointer a)) w') : Calls Tryz.prog 23 #[nv, tv, .int .i64 i, .pointer none] w R := by
  go_enter Tryz.func23, Tryz.ntmps23
  go_wp2_with fail
  refine hc.mono ?_
  rintro e w' ⟨a, rfl, hR⟩
  go_wp2_with fail
  exact hR
end Go.Proofs.YtchimfgbdfmegaaGreat
/- Which of two keys is less, as the reference tells it. -/
namespace Go.Proofs.YtchimfgbdfmegaaGreat
open Go.RowKit Go.Lib
set_option linter.unusedVariables false
set_option maxRecDepth 100000
set_option maxRecDepth 100000
set_option linter.unusedSimpArgs false
theorem cb_app (p u v : List UInt8) : compareBytes (p ++ u) (p ++ v) = compareBytes u v := by
  induction p with
  | nil => rfl
  | cons x p ih =>
    have : ¬ x < x := UInt8.lt_irrefl x
    simp [compareBytes, this, ih]
theorem cb_at {a b : List UInt8} {i : Nat} (h : a.take i = b.take i) : compareBytes a b = compareBytes (a.drop i) (b.drop i) := by
  have := cb_app (a.take i) (a.drop i) (b.drop i)
  rw [List.take_append_drop, h, List.take_append_drop] at this
  exact this
/-- whether one key is less than another -/
def ltB (a b : ByteArray) : Bool := decide (cmpS a b < 0)
theorem ltB_diff {a b : ByteArray} {i : Nat} (h : a.data.toList.take i = b.data.toList.take i) (ha : i < a.data.toList.length) (hb : i < b.data.toList.length) (hne : a.data.toList[i] ≠ b.data.toList[i]) : ltB a b = decide (a.data.toList[i] < b.data.toList[i]) := by
  unfold ltB cmpS
  rw [cb_at h, List.drop_eq_getElem_cons ha, List.drop_eq_getElem_cons hb]
  generalize a.data.toList[i] = x at *
  generalize b.data.toList[i] = y at *
  simp only [compareBytes]
  by_cases h1 : x < y
  · simp [h1]
  · have h2 : y < x := UInt8.lt_of_le_of_ne (UInt8.not_lt.1 h1) (Ne.symm hne)
    simp [h1, h2]
theorem cb_ends {la lb : List UInt8} {i : Nat} (h : la.take i = lb.take i) (hi : i = la.length ∨ i = lb.length) (hia : i ≤ la.length) (hib : i ≤ lb.length) : decide (compareBytes la lb < 0) = decide (la.length < lb.length) := by
  rw [cb_at h]
  have h1 : (la.drop i).length = la.length - i := List.length_drop
  have h2 : (lb.drop i).length = lb.length - i := List.length_drop
  rcases hi with e | e
  · rw [List.drop_of_length_le (l := la) (by omega)]
    cases hd : lb.drop i with
    | nil =>
      rw [hd] at h2
      have : ¬ la.length < lb.length := by simp at h2; omega
      simp [compareBytes, this]
    | cons y r =>
      rw [hd] at h2
      have : la.length < lb.length := by simp at h2; omega
      simp [compareBytes, this]
  · rw [List.drop_of_length_le (l := lb) (by omega)]
    have : ¬ la.length < lb.length := by omega
    cases hd : la.drop i with
    | nil => simp [compareBytes, this]
    | cons y r => simp [compareBytes, this]
theorem ltB_end {a b : ByteArray} {i : Nat} (h : a.data.toList.take i = b.data.toList.take i) (hi : i = a.size ∨ i = b.size) (hia : i ≤ a.size) (hib : i ≤ b.size) : ltB a b = decide (a.size < b.size) :=
  cb_ends h hi hia hib
theorem byte_at (a : ByteArray) (i : Nat) (h : i < a.size) : a.data.toList[i]'h = a[i] := rfl
theorem ltB_at {a b : ByteArray} {i : Nat} (h : a.data.toList.take i = b.data.toList.take i) (ha : i < a.size) (hb : i < b.size) (hne : a[i] ≠ b[i]) : ltB a b = decide (a[i].toNat < b[i].toNat) := by
  have := ltB_diff h ha hb hne
  rw [this]
  rw [decide_eq_decide]
  show a[i] < b[i] ↔ _
  rw [UInt8.lt_iff_toNat_lt]
theorem take_at {a b : ByteArray} {i : Nat} (h : a.data.toList.take i = b.data.toList.take i) (ha : i < a.size) (hb : i < b.size) (he : a[i] = b[i]) : a.data.toList.take (i + 1) = b.data.toList.take (i + 1) := by
  have l1 : i < a.data.toList.length := ha
  have l2 : i < b.data.toList.length := hb
  rw [List.take_succ_eq_append_getElem l1, List.take_succ_eq_append_getElem l2, h]
  congr 2
theorem drew3 (w : World) (x y z : Nat) : ∃ n, ((w.drewN x).drewN y).drewN z = w.drewN n := ⟨x + y + z, by simp [World.drewN, Nat.add_assoc]⟩
set_option maxRecDepth 100000 in
set_option maxHeartbeats 4000000 in
theorem less_any (a b : ByteArray) (w : World) (ha : a.size ≤ maxLen) (hb : b.size ≤ maxLen) : Calls Tryz.prog 55 #[.string a, .string b] w fun e w' => e = .returned (.bool (ltB a b)) ∧ ∃ n, w' = w.drewN n := by
  unfold maxLen at ha hb
  go_enter Tryz.func55, Tryz.ntmps55
  go_wp2_with fail
  go_loopw [5] (fun v wr => ∃ i : Nat, v = .int .i64 i ∧ i ≤ a.size ∧ i ≤ b.size ∧ Hid (a.data.toList.take i = b.data.toList.take i) ∧ ∃ q, wr = w.drewN q) (fun v wr => a.size - (intOf v).toNat)
  case atStart => exact ⟨0, rfl, by omega, by omega, Lib.hid rfl, 0, rfl⟩
  case round =>
    obtain ⟨i, rfl, hia, hib, hE, q, rfl⟩ := hrel
    by_cases h1 : i < a.size
    · have E1 : IntKind.i64.wrap ((i : Int) + 1) = ((i + 1 : Nat) : Int) := by rw [IntWalk.i64_in _ (by omega)]; omega
      by_cases h2 : i < b.size
      · have hd : ∀ k, (w.drewN q).drewN k = w.drewN (q + k) := fun k => by simp [World.drewN, Nat.add_assoc]
        have HD := Lib.hid hd
        clear hd
        by_cases he : a[i] = b[i]
        · have T : (((a[i].toNat : Nat) : Int) != ((b[i].toNat : Nat) : Int)) = false := by rw [he]; simp
          have S := Lib.hid (take_at hE.out h1 h2 he)
          clear he
          go_wp2_with fail
          go_quiet (fail)
          go_wp2_with fail
          exact ⟨⟨i + 1, by go_num, by omega, by omega, S, _, rfl⟩, by simp [intOf]; omega⟩
        · have T : (((a[i].toNat : Nat) : Int) != ((b[i].toNat : Nat) : Int)) = true := by
            rw [bne_iff_ne]
            intro hc
            exact he (UInt8.toNat_inj.1 (by omega))
          have S := Lib.hid (ltB_at hE.out h1 h2 he)
          clear he
          go_wp2_with fail
          go_quiet (fail)
          go_wp2_with fail
          go_quiet (fail)
          go_wp2_with fail
          go_ret
          rw [S.out]
          exact ⟨rfl, drew3 _ _ _ _⟩
      · have S := Lib.hid (ltB_end hE.out (.inr (by omega)) hia hib)
        go_wp2_with fail
        go_ret
        rw [S.out]
        exact ⟨by simp, q, rfl⟩
    · have S := Lib.hid (ltB_end hE.out (.inl (by omega)) hia hib)
      go_wp2_with fail
      go_ret
      rw [S.out]
      exact ⟨by simp, q, rfl⟩
end Go.Proofs.YtchimfgbdfmegaaGreat
/- Whether a list rises, as package pair and as the reference tell it. -/
namespace Go.Proofs.YtchimfgbdfmegaaGreat
open Go.RowKit Go.Lib
set_option linter.unusedVariables false
set_option maxRecDepth 100000
set_option maxRecDepth 100000
set_option linter.unusedSimpArgs false
theorem bytesLess_eq (x y : List UInt8) : Op.bytesLess x y = decide (compareBytes x y < 0) := by
  induction x generalizing y with
  | nil => cases y <;> simp [Op.bytesLess, compareBytes]
  | cons a x ih =>
    cases y with
    | nil => simp [Op.bytesLess, compareBytes]
    | cons b y =>
      simp only [Op.bytesLess, compareBytes, ih]
      by_cases h1 : a < b
      · simp [h1]
      · by_cases h2 : b < a
        · have : ¬ a = b := fun e => UInt8.ne_of_lt h2 e.symm
          simp [h1, h2, this]
        · have : a = b := UInt8.le_antisymm (UInt8.not_lt.1 h2) (UInt8.not_lt.1 h1)
          simp [h1, h2, this]
theorem bytesLess_ltB (a b : ByteArray) : Op.bytesLess a.toList b.toList = ltB a b := by
  rw [bytesLess_eq, ByteArray.toList_eq, ByteArray.toList_eq]; rfl
theorem geqS (a b : ByteArray) (w : World) : (binOp .geq 9 (.string a) (.string b)).run Tryz.prog w = .ok (.bool (!ltB a b)) w := by
  have h : binOp .geq 9 (.string a) (.string b) = pure (.bool (!Op.bytesLess a.toList b.toList)) := by simp [binOp, Op.stringOp]
  rw [h, bytesLess_ltB]; rfl
/-- whether each key is less than the next one -/
def risesB : List Pr → Bool
  | x :: y :: r => ltB x.1 y.1 && risesB (y :: r)
  | _ => true
theorem rises_drop (xs : List Pr) (j : Nat) (h : j + 1 < xs.length) : risesB (xs.drop j) = (ltB (pat xs j).1 (pat xs (j + 1)).1 && risesB (xs.drop (j + 1))) := by
  have e : xs.drop j = pat xs j :: pat xs (j + 1) :: xs.drop (j + 2) := by
    rw [List.drop_eq_getElem_cons (by omega), List.drop_eq_getElem_cons h]
    simp [pat, h, (by omega : j < xs.length)]
  have e2 : xs.drop (j + 1) = pat xs (j + 1) :: xs.drop (j + 2) := by
    rw [List.drop_eq_getElem_cons h]
    simp [pat, h]
  rw [e, e2]
  rfl
theorem rises_end (xs : List Pr) (j : Nat) (h : xs.length ≤ j + 1) : risesB (xs.drop j) = true := by
  have hl : (xs.drop j).length ≤ 1 := by rw [List.length_drop]; omega
  match hd : xs.drop j, hl with
  | [], _ => rfl
  | [x], _ => rfl
theorem risesB_iff (xs : List Pr) : risesB xs = true ↔ RisesL xs := by
  induction xs with
  | nil => simp [risesB, RisesL]
  | cons x r ih =>
    cases r with
    | nil => simp [risesB, RisesL]
    | cons y r =>
      have hlt : ltB x.1 y.1 = true ↔ Lt x.1 y.1 := by unfold ltB Lt; simp
      simp only [risesB, Bool.and_eq_true, hlt, ih]
      unfold RisesL
      constructor
      · rintro ⟨h1, h2⟩
        rw [List.pairwise_cons]
        refine ⟨fun q hq => ?_, h2⟩
        rcases List.mem_cons.1 hq with rfl | hq
        · exact h1
        · exact h1.trans ((List.pairwise_cons.1 h2).1 q hq)
      · intro h
        rw [List.pairwise_cons] at h
        exact ⟨h.1 y (by simp), h.2⟩

end Go.Proofs.YtchimfgbdfmegaaGreat
/- The reference's Rises and Drop. -/
namespace Go.Proofs.YtchimfgbdfmegaaGreat
open Go.RowKit Go.Lib
set_option linter.unusedVariables false
set_option maxRecDepth 100000
set_option maxRecDepth 100000
set_option linter.unusedSimpArgs false
/-- no key is longer than a string can be -/
def Sized (xs : List Pr) : Prop := ∀ j, (pat xs j).1.size ≤ maxLen
/-- those with another key -/
def dropK (xs : List Pr) (k : ByteArray) : List Pr := xs.filter fun p => !(p.1.toList == k.toList)
theorem drop_take (xs : List Pr) (k : ByteArray) (j : Nat) (h : j < xs.length) : dropK (xs.take (j + 1)) k = dropK (xs.take j) k ++ (if ((pat xs j).1.toList == k.toList) = true then [] else [pat xs j]) := by
  have et : xs.take (j + 1) = xs.take j ++ [pat xs j] := by
    rw [List.take_succ_eq_append_getElem h]
    simp [pat, h]
  unfold dropK
  rw [et, List.filter_append]
  congr 1
  by_cases hk : ((pat xs j).1.toList == k.toList) = true
  · rw [if_pos hk]; simp [hk]
  · rw [if_neg hk]; simp at hk; simp [hk]
theorem drop_le (xs : List Pr) (k : ByteArray) (j : Nat) : (dropK (xs.take j) k).length ≤ j := Nat.le_trans (List.length_filter_le _ _) (by rw [List.length_take]; omega)
set_option maxRecDepth 100000 in
set_option maxHeartbeats 4000000 in
theorem refDrop_any (A : Option Addr) (c : Nat) (xs : List Pr) (k : ByteArray) (w : World) (hR : Rd w A xs) (hn : xs.length ≤ 1000) :
    Calls Tryz.prog 54 #[.slice A xs.length c, .string k] w fun e w' => ∃ v, e = .returned v ∧ OwnR w.heap.size w' v (dropK xs k) ∧ Below w.heap.size w w' := by
  obtain ⟨i0, hi, hz0, hz1, hz2⟩ := info_parts info40
  obtain ⟨n, hxs⟩ : ∃ n, n = xs.length := ⟨_, rfl⟩
  rw [← hxs] at hn ⊢
  have HX := Lib.hid hxs
  have HR := Lib.hid hR
  clear hxs hR
  go_enter Tryz.func54, Tryz.ntmps54
  go_wp2_with fail
  go_loopw [5, 10] (fun v i wr => ∃ j : Nat, j ≤ n ∧ i = .int .i64 j ∧ OwnR w.heap.size wr v (dropK (xs.take j) k) ∧ Below w.heap.size w wr) (fun v i wr => n - (intOf i).toNat)
  case atStart => exact ⟨0, by omega, rfl, World.ownsRow_nil _ _ _ _, Below.refl _ _⟩
  case round =>
    obtain ⟨j, hj, rfl, hO, hB⟩ := hrel
    by_cases hlt : j < n
    · obtain ⟨g, off, rfl, c0, c1⟩ := (HR.out.below hB).at j (by rw [← HX.out]; exact hlt)
      have hrow : wr.ownsRow w.heap.size 55 2 u5 (dropK (xs.take j) k).length (flat (dropK (xs.take j) k)) := hO
      have hdl := drop_le xs k j
      have hdt := Lib.hid (drop_take xs k j (by rw [← HX.out]; exact hlt))
      have hb2 : Below w.heap.size w (wr.alloc (.cells #[.string (pat xs j).1, .string (pat xs j).2] 55)) := hB.alloc hB.size _
      have hrow2 := hrow.alloc (.cells #[.string (pat xs j).1, .string (pat xs j).2] 55)
      have hbx := Blk.new wr 55 #[.string (pat xs j).1, .string (pat xs j).2]
      clear hO hB
      go_upto_region 5 with (fail)
      generalize wr.alloc (.cells #[.string (pat xs j).1, .string (pat xs j).2] 55) = W at *
      generalize wr.heap.size = Bx at *
      have b0 : W.cell? ⟨Bx, 0, none⟩ = some (.string (pat xs j).1) := hbx.cell 0
      have b1 : W.cell? ⟨Bx, 1, none⟩ = some (.string (pat xs j).2) := hbx.cell 1
      clear hbx c0 c1 hrow
      generalize dropK (xs.take j) k = R at *
      cases hq : ((pat xs j).1.toList == k.toList) with
      | true =>
        go_wp2_with fail
        refine ⟨⟨j + 1, by omega, by go_num, ?_, hb2⟩, by simp [intOf]; omega⟩
        rw [hdt.out, if_pos hq, List.append_nil]
        exact hrow2
      | false =>
        go_wp2_with (at_builtin; refine wpList_append_own _ rfl _ _ 30 rfl w.heap.size 55 i0 _ 2 32 Tryz.underlying30 hi hz0 hz1 hz2 rfl (by decide) _ _ _ rfl (hrow2.alloc _) ⟨W.heap.size, 0, none⟩ 1 1 [.string (pat xs j).1, .string (pat xs j).2] rfl rfl (cell_two_new _ _ _ _) (flat_cell (pat xs j)) (by unfold maxLen; omega) (by omega) (by have := hb2.size; simp; omega) ?_; intro v' wa hown' hgrow hnil)
        have hB5 : Below w.heap.size w wa := (hb2.alloc hb2.size _).grown hgrow (by have := hb2.size; simp; omega) (own_ge hrow2)
        refine ⟨⟨j + 1, by omega, by go_num, ?_, hB5⟩, by simp [intOf]; omega⟩
        rw [hdt.out, if_neg (by rw [hq]; simp)]
        unfold OwnR
        rw [flat_snoc, List.length_append]
        exact hown'
    · go_wp2_with fail
      go_ret
      rw [List.take_of_length_le (by rw [← HX.out]; omega)] at hO
      exact ⟨_, rfl, hO, hB⟩
end Go.Proofs.YtchimfgbdfmegaaGreat
/- One pair put into the sorted list of a list: it is the sorted list of the list with that pair behind it. -/
namespace Go.Proofs.YtchimfgbdfmegaaGreat
open Go.RowKit Go.Lib
set_option linter.unusedVariables false
set_option maxRecDepth 100000
set_option maxRecDepth 100000
set_option linter.unusedSimpArgs false
/-- a pair, ahead of the first greater key -/
def insK (p : Pr) : List Pr → List Pr
  | [] => [p]
  | q :: r => if ltB p.1 q.1 = true then p :: q :: r else q :: insK p r
/-- with a pair -/
def putK (xs : List Pr) (p : Pr) : List Pr := insK p (dropK xs p.1)
theorem ins_mem (p x : Pr) (D : List Pr) : x ∈ insK p D ↔ x = p ∨ x ∈ D := by
  induction D with
  | nil => simp [insK]
  | cons q r ih =>
    unfold insK
    split
    · simp
    · simp only [List.mem_cons, ih]
      constructor
      · rintro (h | h | h)
        · exact .inr (.inl h)
        · exact .inl h
        · exact .inr (.inr h)
      · rintro (h | h | h)
        · exact .inr (.inl h)
        · exact .inl h
        · exact .inr (.inr h)
theorem ltB_iff (a b : ByteArray) : ltB a b = true ↔ Lt a b := by unfold ltB Lt; simp
theorem ins_rises (p : Pr) (D : List Pr) (h : RisesL D) (hk : ∀ x ∈ D, x.1 ≠ p.1) : RisesL (insK p D) := by
  induction D with
  | nil => simp [insK, RisesL]
  | cons q r ih =>
    have h' := List.pairwise_cons.1 h
    unfold insK
    split
    · rename_i hl
      have hpq := (ltB_iff _ _).1 hl
      unfold RisesL
      rw [List.pairwise_cons]
      refine ⟨fun x hx => ?_, h⟩
      rcases List.mem_cons.1 hx with rfl | hx
      · exact hpq
      · exact hpq.trans (h'.1 x hx)
    · rename_i hl
      have hqp : Lt q.1 p.1 := by
        have h1 : Le q.1 p.1 := not_lt_le (fun hc => hl ((ltB_iff _ _).2 hc))
        rcases h1.lt_or_eq with h1 | h1
        · exact h1
        · exact absurd h1 (hk q (by simp))
      unfold RisesL
      rw [List.pairwise_cons]
      refine ⟨fun x hx => ?_, ih h'.2 (fun x hx => hk x (List.mem_cons_of_mem _ hx))⟩
      rcases (ins_mem p x r).1 hx with rfl | hx
      · exact hqp
      · exact h'.1 x hx
theorem drop_mem (xs : List Pr) (k : ByteArray) (x : Pr) : x ∈ dropK xs k ↔ x ∈ xs ∧ x.1 ≠ k := by
  unfold dropK
  rw [List.mem_filter]
  simp only [Bool.not_eq_true', beq_eq_false_iff_ne, ne_eq]
  constructor
  · rintro ⟨h1, h2⟩; exact ⟨h1, fun e => h2 (by rw [e])⟩
  · rintro ⟨h1, h2⟩; exact ⟨h1, fun e => h2 (bytes_ext (by rw [ByteArray.toList_eq, ByteArray.toList_eq] at e; exact e))⟩
theorem drop_rises (xs : List Pr) (k : ByteArray) (h : RisesL xs) : RisesL (dropK xs k) := List.Pairwise.filter _ h
theorem norm_put {ys R : List Pr} (p : Pr) (h : IsNorm ys R) : IsNorm (ys ++ [p]) (putK R p) := by
  constructor
  · exact ins_rises p _ (drop_rises R p.1 h.rises) (fun x hx => ((drop_mem R p.1 x).1 hx).2)
  · intro x
    unfold putK
    rw [ins_mem, drop_mem, h.mem x]
    have e : withKey (ys ++ [p]) x.1 = withKey ys x.1 ++ (if p.1 = x.1 then [p] else []) := by
      unfold withKey
      rw [List.filter_append]
      by_cases hp : p.1 = x.1 <;> simp [hp]
    rw [e]
    by_cases hp : p.1 = x.1
    · rw [if_pos hp, List.getLast?_append]
      simp only [List.getLast?_singleton, Option.some_or, Option.some.injEq]
      constructor
      · rintro (h1 | ⟨_, h2⟩)
        · exact h1.symm
        · exact absurd hp.symm h2
      · intro h1; exact .inl h1.symm
    · rw [if_neg hp, List.append_nil]
      constructor
      · rintro (h1 | ⟨h1, _⟩)
        · subst h1; exact absurd rfl hp
        · exact h1
      · intro h1; exact .inr ⟨h1, fun e => hp e.symm⟩
theorem norm_nil : IsNorm [] [] := ⟨List.Pairwise.nil, fun p => by simp [withKey]⟩
end Go.Proofs.YtchimfgbdfmegaaGreat
/- The reference's Put. -/
namespace Go.Proofs.YtchimfgbdfmegaaGreat
open Go.RowKit Go.Lib
set_option linter.unusedVariables false
set_option maxRecDepth 100000
set_option maxRecDepth 100000
set_option linter.unusedSimpArgs false
theorem insK_at (p : Pr) (D : List Pr) (j : Nat) (h : j < D.length) : insK p (D.drop j) = if ltB p.1 (pat D j).1 = true then p :: pat D j :: D.drop (j + 1) else pat D j :: insK p (D.drop (j + 1)) := by
  have e : D.drop j = pat D j :: D.drop (j + 1) := by
    rw [List.drop_eq_getElem_cons h]; simp [pat, h]
  rw [e]; rfl
theorem insK_end (p : Pr) (D : List Pr) (j : Nat) (h : D.length ≤ j) : insK p (D.drop j) = [p] := by
  rw [List.drop_of_length_le h]; rfl
theorem drop_at (D : List Pr) (j : Nat) (h : j < D.length) : D.drop j = pat D j :: D.drop (j + 1) := by
  rw [List.drop_eq_getElem_cons h]; simp [pat, h]
/-- what is in out when j of D have come by -/
def OutP (p : Pr) (D : List Pr) (j : Nat) (b : Bool) (X : List Pr) : Prop :=
  X ++ (if b = true then D.drop j else insK p (D.drop j)) = insK p D ∧ X.length ≤ j + b.toNat
theorem OutP.start (p : Pr) (D : List Pr) : OutP p D 0 false [] := ⟨by simp, by simp⟩
theorem OutP.in {p : Pr} {D : List Pr} {j : Nat} {X : List Pr} (h : OutP p D j false X) (hj : j < D.length) (hl : ltB p.1 (pat D j).1 = true) : OutP p D (j + 1) true (X ++ [p] ++ [pat D j]) := by
  obtain ⟨h, hX⟩ := h
  simp at hX
  rw [if_neg (by simp), insK_at p D j hj, if_pos hl] at h
  exact ⟨by rw [← h]; simp, by simp; omega⟩
theorem OutP.on {p : Pr} {D : List Pr} {j : Nat} {X : List Pr} (h : OutP p D j false X) (hj : j < D.length) (hl : ltB p.1 (pat D j).1 = false) : OutP p D (j + 1) false (X ++ [pat D j]) := by
  obtain ⟨h, hX⟩ := h
  simp at hX
  rw [if_neg (by simp), insK_at p D j hj, if_neg (by rw [hl]; simp)] at h
  exact ⟨by rw [← h]; simp, by simp; omega⟩
theorem OutP.next {p : Pr} {D : List Pr} {j : Nat} {X : List Pr} (h : OutP p D j true X) (hj : j < D.length) : OutP p D (j + 1) true (X ++ [pat D j]) := by
  obtain ⟨h, hX⟩ := h
  simp at hX
  rw [if_pos rfl, drop_at D j hj] at h
  exact ⟨by rw [← h]; simp, by simp; omega⟩
theorem OutP.done {p : Pr} {D : List Pr} {j : Nat} {X : List Pr} (h : OutP p D j true X) (hj : D.length ≤ j) : X = insK p D := by
  rw [← h.1, if_pos rfl, List.drop_of_length_le hj]; simp
theorem OutP.last {p : Pr} {D : List Pr} {j : Nat} {X : List Pr} (h : OutP p D j false X) (hj : D.length ≤ j) : X ++ [p] = insK p D := by
  rw [← h.1, if_neg (by simp), insK_end p D j hj]
theorem sized_drop {xs : List Pr} (h : Sized xs) (k : ByteArray) : Sized (dropK xs k) := by
  intro j
  by_cases hj : j < (dropK xs k).length
  · have hm : (pat (dropK xs k) j) ∈ dropK xs k := by unfold pat; rw [List.getElem?_eq_getElem hj]; exact List.getElem_mem _
    have := (List.mem_filter.1 hm).1
    obtain ⟨i, hi, e⟩ := List.getElem_of_mem this
    have := h i
    unfold pat at this
    rw [List.getElem?_eq_getElem hi] at this
    simpa [e] using this
  · unfold pat
    rw [List.getElem?_eq_none (by omega)]
    simp [maxLen]
theorem OwnR.base {b b' : Nat} {w : World} {v : Value} {xs : List Pr} (h : OwnR b w v xs) (hb : b' ≤ b) : OwnR b' w v xs := by
  refine ⟨h.1, ?_⟩
  rcases h.2 with h1 | ⟨g, cap, cur, h1, h2, h3⟩
  · exact .inl h1
  · exact .inr ⟨g, cap, cur, h1, Nat.le_trans hb h2, h3⟩
theorem OwnR.snoc {base : Nat} {w : World} {v : Value} {R : List Pr} {p : Pr} (h : w.ownsRow base 55 2 v (R.length + 1) (flat R ++ [.string p.1, .string p.2])) : OwnR base w v (R ++ [p]) := by
  unfold OwnR
  rw [flat_snoc, List.length_append]
  exact h
set_option maxRecDepth 100000 in
set_option maxHeartbeats 4000000 in
theorem refPut_any (A : Option Addr) (c : Nat) (xs : List Pr) (p : Pr) (w : World) (hR : Rd w A xs) (hn : xs.length ≤ 900) (hz : Sized xs) (hp : p.1.size ≤ maxLen) :
    Calls Tryz.prog 30 #[.slice A xs.length c, p.v] w fun e w' => ∃ v, e = .returned v ∧ OwnR w.heap.size w' v (putK xs p) ∧ Below w.heap.size w w' := by
  obtain ⟨i0, hi, hz0, hz1, hz2⟩ := info_parts info40
  have hB0 : Below w.heap.size w (w.alloc (.cells #[.string p.1, .string p.2] 55)) := (Below.refl _ w).alloc (Nat.le_refl _) _
  have hR0 := hR.below hB0
  have hbx := Blk.new w 55 #[.string p.1, .string p.2]
  have hlt0 : w.heap.size < (w.alloc (.cells #[.string p.1, .string p.2] 55)).heap.size := by simp
  have hzD := sized_drop hz p.1
  have hDl : (dropK xs p.1).length ≤ 900 := Nat.le_trans (List.length_filter_le _ _) hn
  have hgoal : putK xs p = insK p (dropK xs p.1) := rfl
  rw [hgoal]
  obtain ⟨D, hD⟩ : ∃ D, D = dropK xs p.1 := ⟨_, rfl⟩
  rw [← hD] at hzD hDl ⊢
  have HDK := Lib.hid hD
  clear hgoal hD
  unfold Pr.v
  go_enter Tryz.func30, Tryz.ntmps30
  go_upto_region 3 with (fail)
  generalize w.alloc (.cells #[.string p.1, .string p.2] 55) = W0 at *
  have b0 : W0.cell? ⟨w.heap.size, 0, none⟩ = some (.string p.1) := hbx.cell 0
  have b1 : W0.cell? ⟨w.heap.size, 1, none⟩ = some (.string p.2) := hbx.cell 1
  go_wp2_with fail
  refine (refDrop_any A c xs p.1 W0 hR0 (by omega)).mono ?_
  rintro e w1 ⟨v1, rfl, hO1, hB1⟩
  rw [← HDK.out] at hO1
  obtain ⟨A1, c1, rfl, hR1⟩ := hO1.rd
  have hW1 := hB0.trans (hB1.mono hB0.size)
  have b0' : w1.cell? ⟨w.heap.size, 0, none⟩ = some (.string p.1) := (hB1.cell hlt0).trans b0
  have b1' : w1.cell? ⟨w.heap.size, 1, none⟩ = some (.string p.2) := (hB1.cell hlt0).trans b1
  have hlt1 : w.heap.size < w1.heap.size := Nat.lt_of_lt_of_le hlt0 hB1.size
  clear hO1 hbx hB0 hB1 b0 b1 hR0 hR hn hz
  obtain ⟨m, hm⟩ : ∃ m, m = D.length := ⟨_, rfl⟩
  rw [← hm] at hDl ⊢
  have HD := Lib.hid hm
  have HR := Lib.hid hR1
  have HZ := Lib.hid hzD
  have HW1 := Lib.hid hW1
  clear hm hR1 hzD hW1
  go_wp2_with fail
  go_loopw [5, 6, 14] (fun v pl i wr => ∃ (j : Nat) (b : Bool) (X : List Pr), j ≤ m ∧ i = .int .i64 j ∧ pl = .bool b ∧ OutP p D j b X ∧ OwnR w1.heap.size wr v X ∧ Below w1.heap.size w1 wr) (fun v pl i wr => m - (intOf i).toNat)
  case atStart => exact ⟨0, false, [], by omega, rfl, rfl, OutP.start p D, World.ownsRow_nil _ _ _ _, Below.refl _ _⟩
  case round =>
    obtain ⟨j, b, X, hj, rfl, rfl, hX, hO, hB⟩ := hrel
    have p0 : wr.cell? ⟨w.heap.size, 0, none⟩ = some (.string p.1) := (hB.cell hlt1).trans b0'
    have p1 : wr.cell? ⟨w.heap.size, 1, none⟩ = some (.string p.2) := (hB.cell hlt1).trans b1'
    have hXl := hX.2
    have hXl2 : X.length ≤ 1000 := by have := Bool.toNat_le b; omega
    have HX := Lib.hid hX
    clear hX hXl
    by_cases hlt : j < m
    · obtain ⟨g, off, rfl, c0, c1'⟩ := (HR.out.below hB).at j (by rw [← HD.out]; exact hlt)
      have hrow : wr.ownsRow w1.heap.size 55 2 u5 X.length (flat X) := hO
      have hb2 : Below w1.heap.size w1 (wr.alloc (.cells #[.string (pat D j).1, .string (pat D j).2] 55)) := hB.alloc hB.size _
      have hrow2 := hrow.alloc (.cells #[.string (pat D j).1, .string (pat D j).2] 55)
      have hbx := Blk.new wr 55 #[.string (pat D j).1, .string (pat D j).2]
      have hlB : wr.heap.size < (wr.alloc (.cells #[.string (pat D j).1, .string (pat D j).2] 55)).heap.size := by simp
      have p0' : (wr.alloc (.cells #[.string (pat D j).1, .string (pat D j).2] 55)).cell? ⟨w.heap.size, 0, none⟩ = some (.string p.1) := (hb2.cell hlt1).trans b0'
      have p1' : (wr.alloc (.cells #[.string (pat D j).1, .string (pat D j).2] 55)).cell? ⟨w.heap.size, 1, none⟩ = some (.string p.2) := (hb2.cell hlt1).trans b1'
      have hne : some wr.heap.size ≠ u5.ownBlock := fun e => by have := (World.ownsRow.lt hrow _ e.symm).2; omega
      clear hO hB p0 p1 b0' b1'
      go_upto_region 6 with (fail)
      generalize wr.alloc (.cells #[.string (pat D j).1, .string (pat D j).2] 55) = W at *
      generalize wr.heap.size = Bx at *
      have q0 : W.cell? ⟨Bx, 0, none⟩ = some (.string (pat D j).1) := hbx.cell 0
      have q1 : W.cell? ⟨Bx, 1, none⟩ = some (.string (pat D j).2) := hbx.cell 1
      clear hbx c0 c1' hrow
      have hjD : j < D.length := by rw [← HD.out]; exact hlt
      cases b with
      | true =>
        have HN := Lib.hid (HX.out.next hjD)
        go_wp2_with (at_builtin; refine wpList_append_own _ rfl _ _ 30 rfl w1.heap.size 55 i0 _ 2 32 Tryz.underlying30 hi hz0 hz1 hz2 rfl (by decide) _ _ _ rfl (hrow2.alloc _) ⟨W.heap.size, 0, none⟩ 1 1 [.string (pat D j).1, .string (pat D j).2] rfl rfl (cell_two_new _ _ _ _) (flat_cell (pat D j)) (by unfold maxLen; omega) (by omega) (by have := hb2.size; simp; omega) ?_; intro v' wa hown' hgrow hnil)
        have hB5 : Below w1.heap.size w1 wa := (hb2.alloc hb2.size _).grown hgrow (by have := hb2.size; simp; omega) (own_ge hrow2)
        exact ⟨⟨j + 1, true, X ++ [pat D j], by omega, by go_num, rfl, HN.out, OwnR.snoc hown', hB5⟩, by simp [intOf]; omega⟩
      | false =>
        go_wp2_with fail
        refine (less_any p.1 (pat D j).1 W hp (HZ.out j)).mono ?_
        rintro e w' ⟨rfl, nq, rfl⟩
        have hrow3 : (W.drewN nq).ownsRow w1.heap.size 55 2 u5 X.length (flat X) := hrow2
        have hb3 : Below w1.heap.size w1 (W.drewN nq) := ⟨hb2.os, hb2.tape, hb2.output, hb2.size, hb2.block⟩
        have p03 : (W.drewN nq).cell? ⟨w.heap.size, 0, none⟩ = some (.string p.1) := p0'
        have p13 : (W.drewN nq).cell? ⟨w.heap.size, 1, none⟩ = some (.string p.2) := p1'
        have q03 : (W.drewN nq).cell? ⟨Bx, 0, none⟩ = some (.string (pat D j).1) := q0
        have q13 : (W.drewN nq).cell? ⟨Bx, 1, none⟩ = some (.string (pat D j).2) := q1
        have hlB3 : Bx < (W.drewN nq).heap.size := hlB
        clear hrow2 hb2 p0' p1' q0 q1 hlB
        generalize W.drewN nq = W2 at *
        cases hv : ltB p.1 (pat D j).1 with
        | true =>
          have HN := Lib.hid (HX.out.in hjD hv)
          have hA2 : Below W2.heap.size W2 (W2.alloc (.cells #[.string p.1, .string p.2] 55)) := (Below.refl _ W2).alloc (Nat.le_refl _) _
          clear hv
          go_upto_region 8 with (at_builtin; refine wpList_append_own _ rfl _ _ 30 rfl w1.heap.size 55 i0 _ 2 32 Tryz.underlying30 hi hz0 hz1 hz2 rfl (by decide) _ _ _ rfl (hrow3.alloc _) ⟨W2.heap.size, 0, none⟩ 1 1 [.string p.1, .string p.2] rfl rfl (cell_two_new _ _ _ _) (flat_cell p) (by unfold maxLen; omega) (by omega) (by have := hb3.size; simp; omega) ?_; intro v' wa hown' hgrow hnil; have q04 := hgrow.cell ((hA2.cell hlB3).trans q03) hne; have q14 := hgrow.cell ((hA2.cell hlB3).trans q13) hne)
          have hB5 : Below w1.heap.size w1 wa := (hb3.alloc hb3.size _).grown hgrow (by have := hb3.size; simp; omega) (own_ge hrow3)
          have hrow4 : wa.ownsRow w1.heap.size 55 2 v' (X.length + 1) (flat X ++ [.string p.1, .string p.2]) := hown'
          clear hgrow hnil hown' hrow3 hb3 p03 p13 q03 q13
          go_wp2_with (at_builtin; refine wpList_append_own _ rfl _ _ 30 rfl w1.heap.size 55 i0 _ 2 32 Tryz.underlying30 hi hz0 hz1 hz2 rfl (by decide) _ _ _ rfl (hrow4.alloc _) ⟨wa.heap.size, 0, none⟩ 1 1 [.string (pat D j).1, .string (pat D j).2] rfl rfl (cell_two_new _ _ _ _) (flat_cell (pat D j)) (by unfold maxLen; omega) (by omega) (by have := hB5.size; simp; omega) ?_; intro v2 wb hown2 hgrow2 hnil2)
          have hB6 : Below w1.heap.size w1 wb := (hB5.alloc hB5.size _).grown hgrow2 (by have := hB5.size; simp; omega) (own_ge hrow4)
          refine ⟨⟨j + 1, true, X ++ [p] ++ [pat D j], by omega, by go_num, rfl, HN.out, ?_, hB6⟩, by simp [intOf]; omega⟩
          refine OwnR.snoc ?_
          rw [flat_snoc, List.length_append]
          exact hown2
        | false =>
          have HN := Lib.hid (HX.out.on hjD hv)
          clear hv
          go_wp2_with (at_builtin; refine wpList_append_own _ rfl _ _ 30 rfl w1.heap.size 55 i0 _ 2 32 Tryz.underlying30 hi hz0 hz1 hz2 rfl (by decide) _ _ _ rfl (hrow3.alloc _) ⟨W2.heap.size, 0, none⟩ 1 1 [.string (pat D j).1, .string (pat D j).2] rfl rfl (cell_two_new _ _ _ _) (flat_cell (pat D j)) (by unfold maxLen; omega) (by omega) (by have := hb3.size; simp; omega) ?_; intro v' wa hown' hgrow hnil)
          have hB5 : Below w1.heap.size w1 wa := (hb3.alloc hb3.size _).grown hgrow (by have := hb3.size; simp; omega) (own_ge hrow3)
          exact ⟨⟨j + 1, false, X ++ [pat D j], by omega, by go_num, rfl, HN.out, OwnR.snoc hown', hB5⟩, by simp [intOf]; omega⟩
    · have hjD : D.length ≤ j := by rw [← HD.out]; omega
      have hrow : wr.ownsRow w1.heap.size 55 2 u5 X.length (flat X) := hO
      have hfin : ∀ (v : Value) (wa : World), OwnR w1.heap.size wa v (insK p D) → Below w1.heap.size w1 wa → OwnR w.heap.size wa v (insK p D) ∧ Below w.heap.size w wa := fun v wa h1 h2 => ⟨h1.base HW1.out.size, HW1.out.trans (h2.mono HW1.out.size)⟩
      have HF := Lib.hid hfin
      clear hO hfin
      cases b with
      | true =>
        have HN := Lib.hid (HX.out.done hjD)
        go_wp2_with fail
        go_ret
        have e1 := HN.out
        subst e1
        obtain ⟨h1, h2⟩ := HF.out _ _ hrow hB
        exact ⟨_, rfl, h1, h2⟩
      | false =>
        have HN := Lib.hid (HX.out.last hjD)
        go_wp2_with (at_builtin; refine wpList_append_own _ rfl _ _ 30 rfl w1.heap.size 55 i0 _ 2 32 Tryz.underlying30 hi hz0 hz1 hz2 rfl (by decide) _ _ _ rfl (hrow.alloc _) ⟨wr.heap.size, 0, none⟩ 1 1 [.string p.1, .string p.2] rfl rfl (cell_two_new _ _ _ _) (flat_cell p) (by unfold maxLen; omega) (by omega) (by have := hB.size; simp; omega) ?_; intro v' wa hown' hgrow hnil)
        have hB5 : Below w1.heap.size w1 wa := (hB.alloc hB.size _).grown hgrow (by have := hB.size; simp; omega) (own_ge hrow)
        go_ret
        have hX' := OwnR.snoc hown'
        rw [HN.out] at hX'
        obtain ⟨h1, h2⟩ := HF.out _ _ hX' hB5
        exact ⟨_, rfl, h1, h2⟩
end Go.Proofs.YtchimfgbdfmegaaGreat
