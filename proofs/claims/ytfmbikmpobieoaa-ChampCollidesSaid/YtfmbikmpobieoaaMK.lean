/- Whose own a node is; what is read of a node. -/
import Derived.Test.YtfmbikmpobieoaaMO
import Derived.StillTailTactics
namespace Go.Proofs.Ytfmbikmpobieoaa
open Go.RowKit Go.Lib
set_option linter.unusedVariables false
set_option maxRecDepth 100000
set_option maxRecDepth 100000
set_option linter.unusedSimpArgs false
attribute [local irreducible] cnt
/-- a pointer to a block, or nil -/
def pt : Option Nat → Value
  | none => .pointer none
  | some t => at0 t
/-- a token, or nil: whether it is live -/
def TV (w : World) (tk : Option Nat) (l : Bool) : Prop := (tk = none ∧ l = false) ∨ ∃ t p id, tk = some t ∧ Tok w t p id l
theorem TV.nil (w : World) : TV w none false := .inl ⟨rfl, rfl⟩
theorem TV.tok {w : World} {t p id : Nat} {l : Bool} (h : Tok w t p id l) : TV w (some t) l := .inr ⟨t, p, id, rfl, h⟩
theorem Tok.type {w : World} {t p id : Nat} {l : Bool} (h : Tok w t p id l) {X : List Nat} (hX : ∀ x ∈ X, ∀ cs, ¬ Blk w x 110 cs) : t ∉ X := fun hm => hX t hm _ h
theorem TV.keep {w w' : World} {tk : Option Nat} {l : Bool} (h : TV w tk l) {X : List Nat} (hk : Keep X w w') (hX : ∀ x ∈ X, ∀ cs, ¬ Blk w x 110 cs) : TV w' tk l := by
  rcases h with h | ⟨t, p, id, e, h⟩
  · exact .inl h
  · exact .inr ⟨t, p, id, e, h.keep hk (h.type hX)⟩
theorem TV.below {w w' : World} {tk : Option Nat} {l : Bool} (h : TV w tk l) (hb : Below w.heap.size w w') : TV w' tk l := h.keep (Keep.of_below (X := []) hb) (by simp)
theorem TV.drewN {w : World} {tk : Option Nat} {l : Bool} (h : TV w tk l) (n : Nat) : TV (w.drewN n) tk l := h
theorem live_tv (tk : Option Nat) (l : Bool) (w : World) (h : TV w tk l) : Calls Try.prog 56 #[pt tk] w fun e w' => e = .returned (.bool l) ∧ w = w' := by
  rcases h with ⟨rfl, rfl⟩ | ⟨t, p, id, rfl, h⟩
  · exact live_nil w
  · exact live_any t p id l w h
section
variable {base : Nat} {w : World} {b : Nat} {o : Value} {bk : Bool} {d nn : Nat} {pv kv : Value} {xs : List Pr} {ks : List Nat}
/-- no block of a node is a token's -/
theorem NdV.noTok (h : NdV base w b o bk d nn pv kv xs ks) : ∀ x ∈ foot b pv kv, ∀ cs, ¬ Blk w x 110 cs := by
  intro x hx cs hb
  simp only [foot, List.mem_cons, List.mem_append, Option.mem_toList] at hx
  unfold Blk at hb
  rcases hx with rfl | e | e
  · have := h.blk; unfold Blk at this; rw [this] at hb; cases hb
  · obtain ⟨cur, hc⟩ := own_cells h.prs x e; rw [hc] at hb; cases hb
  · obtain ⟨cur, hc⟩ := own_cells h.kds x e; rw [hc] at hb; cases hb
end
/-- whether a token that is live, or not, may change a node of that owner -/
def ownB (ow tk : Option Nat) (l : Bool) : Bool := l && decide (ow = tk)
theorem owned_dead (b : Nat) (tk : Option Nat) (w : World) (ht : TV w tk false) :
    Calls Try.prog 38 #[at0 b, pt tk] w fun e w' => e = .returned (.bool false) ∧ w = w' := by
  unfold at0
  go_enter Try.func38, Try.ntmps38
  go_wp2_with fail
  refine (live_tv tk false w ht).mono ?_
  rintro e w' ⟨rfl, rfl⟩
  go_wp2_with fail
  go_ret
  exact ⟨rfl, rfl⟩
theorem owned_nil (tv : Value) (w : World) : Calls Try.prog 38 #[.pointer none, tv] w fun e w' => e = .returned (.bool false) ∧ w = w' := by
  go_enter Try.func38, Try.ntmps38
  go_wp2_with fail
  go_ret
  exact ⟨rfl, rfl⟩
theorem eql_tok_nil (a : Addr) (w : World) : (binOp .eql 49 (.pointer none) (.pointer (some a))).run Try.prog w = .ok (.bool false) w := by
  obtain ⟨j, hj, -⟩ := info86
  have h : ∀ d : Nat, (Op.equalIn (d + 1) 49 (.pointer none) (.pointer (some a))).run Try.prog w = .ok false w := fun d => by
    simp [Op.equalIn, run_underlying Try.underlying49, sizeOf, typeInfo, hj]
  simp only [binOp]
  simp [Op.equal, Op.maxDepth, h 9999]
set_option maxRecDepth 100000 in
theorem owned_live (base b t p id : Nat) (ow : Option Nat) (lo bk : Bool) (d nn : Nat) (pv kv : Value) (xs : List Pr) (ks : List Nat) (w : World) (h : NdV base w b (pt ow) bk d nn pv kv xs ks) (ht : Tok w t p id true) (ho : TV w ow lo) :
    Calls Try.prog 38 #[at0 b, at0 t] w fun e w' => e = .returned (.bool (decide (ow = some t))) ∧ w = w' := by
  obtain ⟨c0, c1, c2, c3, c4, c5⟩ := h.cells
  have hlv := live_any t p id true w ht
  clear h c1 c2 c3 c4 c5
  rcases ho with ⟨rfl, rfl⟩ | ⟨t', p', id', rfl, h'⟩
  · unfold pt at c0
    have hne := eql_tok_nil ⟨t, 0, none⟩ w
    unfold at0 at *
    clear ht
    go_enter Try.func38, Try.ntmps38
    go_wp2_with fail
    refine hlv.mono ?_
    rintro e w' ⟨rfl, rfl⟩
    go_wp2_with fail
    go_ret
    exact ⟨rfl, rfl⟩
  · by_cases e : t' = t
    · subst e
      have hd : decide (some t' = some t') = true := by simp
      rw [hd]
      obtain ⟨j, hj, hs⟩ := info86
      have hsame := run_eql_ptr_same (P := Try.prog) (w := w) ⟨t', 0, none⟩ Try.underlying49 hj
      unfold pt at c0
      unfold at0 at *
      clear ht h' hd
      go_enter Try.func38, Try.ntmps38
      go_wp2_with fail
      refine hlv.mono ?_
      rintro e w' ⟨rfl, rfl⟩
      go_wp2_with fail
      go_ret
      exact ⟨rfl, rfl⟩
    · have hne := eql_tok_other w e h' ht
      have hd : decide (some t' = some t) = false := by simp [e]
      rw [hd]
      unfold pt at c0
      unfold at0 at *
      clear ht h' hd e
      go_enter Try.func38, Try.ntmps38
      go_wp2_with fail
      refine hlv.mono ?_
      rintro e w' ⟨rfl, rfl⟩
      go_wp2_with fail
      go_ret
      exact ⟨rfl, rfl⟩
theorem owned_any (base b : Nat) (ow tk : Option Nat) (lo l bk : Bool) (d nn : Nat) (pv kv : Value) (xs : List Pr) (ks : List Nat) (w : World) (h : NdV base w b (pt ow) bk d nn pv kv xs ks) (ht : TV w tk l) (ho : TV w ow lo) :
    Calls Try.prog 38 #[at0 b, pt tk] w fun e w' => e = .returned (.bool (ownB ow tk l)) ∧ w = w' := by
  cases l with
  | false => exact owned_dead b tk w ht
  | true =>
    rcases ht with ⟨_, h0⟩ | ⟨t, p, id, rfl, ht⟩
    · cases h0
    · exact owned_live base b t p id ow lo bk d nn pv kv xs ks w h ht ho
end Go.Proofs.Ytfmbikmpobieoaa
/- What is read of a node. -/
namespace Go.Proofs.Ytfmbikmpobieoaa
open Go.RowKit Go.Lib
set_option linter.unusedVariables false
set_option maxRecDepth 100000
set_option maxRecDepth 100000
set_option linter.unusedSimpArgs false
attribute [local irreducible] cnt
theorem isBucket_nil (w : World) : Calls Try.prog 10 #[.pointer none] w fun e w' => e = .returned (.bool false) ∧ w = w' := by
  go_enter Try.func10, Try.ntmps10
  go_wp2_with fail
  go_ret
  exact ⟨rfl, rfl⟩
theorem data_nil (w : World) : Calls Try.prog 11 #[.pointer none] w fun e w' => e = .returned (.int .u32 0) ∧ w = w' := by
  go_enter Try.func11, Try.ntmps11
  go_wp2_with fail
  go_ret
  exact ⟨rfl, rfl⟩
theorem nodes_nil (w : World) : Calls Try.prog 12 #[.pointer none] w fun e w' => e = .returned (.int .u32 0) ∧ w = w' := by
  go_enter Try.func12, Try.ntmps12
  go_wp2_with fail
  go_ret
  exact ⟨rfl, rfl⟩
theorem len_nil (w : World) : Calls Try.prog 9 #[.pointer none] w fun e w' => e = .returned (.int .i64 0) ∧ w = w' := by
  go_enter Try.func9, Try.ntmps9
  go_wp2_with fail
  go_ret
  exact ⟨rfl, rfl⟩
theorem pairs_nil (w : World) : Calls Try.prog 15 #[.pointer none] w fun e w' => e = .returned (.slice none 0 0) ∧ w = w' := by
  go_enter Try.func15, Try.ntmps15
  go_wp2_with fail
  go_ret
  exact ⟨rfl, rfl⟩
theorem kids_nil (w : World) : Calls Try.prog 32 #[.pointer none] w fun e w' => e = .returned (.slice none 0 0) ∧ w = w' := by
  go_enter Try.func32, Try.ntmps32
  go_wp2_with fail
  go_ret
  exact ⟨rfl, rfl⟩
theorem hasChunk_nil (i : Int) (w : World) : Calls Try.prog 64 #[.pointer none, .int .i64 i] w fun e w' => e = .returned (.bool false) ∧ w = w' := by
  go_enter Try.func64, Try.ntmps64
  go_wp2_with fail
  go_ret
  exact ⟨rfl, rfl⟩
section
variable (base b : Nat) (o : Value) (bk : Bool) (d nn : Nat) (pv kv : Value) (xs : List Pr) (ks : List Nat) (w : World) (h : NdV base w b o bk d nn pv kv xs ks)
include h
theorem isBucket_any : Calls Try.prog 10 #[at0 b] w fun e w' => e = .returned (.bool bk) ∧ w = w' := by
  obtain ⟨c0, c1, c2, c3, c4, c5⟩ := h.cells
  unfold at0
  go_enter Try.func10, Try.ntmps10
  go_wp2_with fail
  go_ret
  exact ⟨rfl, rfl⟩
theorem data_any : Calls Try.prog 11 #[at0 b] w fun e w' => e = .returned (.int .u32 d) ∧ w = w' := by
  obtain ⟨c0, c1, c2, c3, c4, c5⟩ := h.cells
  unfold at0
  go_enter Try.func11, Try.ntmps11
  go_wp2_with fail
  go_ret
  exact ⟨rfl, rfl⟩
theorem nodes_any : Calls Try.prog 12 #[at0 b] w fun e w' => e = .returned (.int .u32 nn) ∧ w = w' := by
  obtain ⟨c0, c1, c2, c3, c4, c5⟩ := h.cells
  unfold at0
  go_enter Try.func12, Try.ntmps12
  go_wp2_with fail
  go_ret
  exact ⟨rfl, rfl⟩
theorem len_any (hn1 : xs.length ≤ 800) (hn2 : ks.length ≤ 800) : Calls Try.prog 9 #[at0 b] w fun e w' => e = .returned (.int .i64 (xs.length + ks.length : Nat)) ∧ ∃ k, w' = w.drewN k := by
  obtain ⟨c0, c1, c2, c3, c4, c5⟩ := h.cells
  obtain ⟨A1, q1, e1, -⟩ : ∃ A c, pv = .slice A xs.length c ∧ True := by
    rcases h.prs.2 with ⟨e, e0⟩ | ⟨g, cap, cur, e, _⟩
    · exact ⟨none, 0, by rw [e, e0], trivial⟩
    · exact ⟨_, _, e, trivial⟩
  obtain ⟨A2, q2, e2, -⟩ : ∃ A c, kv = .slice A ks.length c ∧ True := by
    rcases h.kds.2 with ⟨e, e0⟩ | ⟨g, cap, cur, e, _⟩
    · exact ⟨none, 0, by rw [e, e0], trivial⟩
    · exact ⟨_, _, e, trivial⟩
  subst e1 e2
  have F : IntKind.i64.wrap ((xs.length : Int) + (ks.length : Int)) = ((xs.length + ks.length : Nat) : Int) := by rw [IntWalk.i64_in _ (by omega)]; omega
  generalize xs.length + ks.length = N at *
  clear h
  unfold at0
  go_enter Try.func9, Try.ntmps9
  go_wp2_with fail
  go_quiet (fail)
  go_wp2_with fail
  go_ret
  exact ⟨rfl, nq, rfl⟩
theorem pairs_any (hn : xs.length ≤ 800) : Calls Try.prog 15 #[at0 b] w (CloneP xs w) := by
  obtain ⟨c0, c1, c2, c3, c4, c5⟩ := h.cells
  have hp := h.prs
  clear h
  unfold at0
  go_enter Try.func15, Try.ntmps15
  go_wp2_with fail
  refine (clone_pairs base pv xs w hp (by omega)).mono ?_
  rintro e w1 ⟨v1, rfl, hO1, hB⟩
  go_wp2_with fail
  go_ret
  exact ⟨v1, rfl, hO1, hB⟩
theorem kids_any (hn : ks.length ≤ 800) : Calls Try.prog 32 #[at0 b] w (CloneK ks w) := by
  obtain ⟨c0, c1, c2, c3, c4, c5⟩ := h.cells
  have hp := h.kds
  clear h
  unfold at0
  go_enter Try.func32, Try.ntmps32
  go_wp2_with fail
  refine (clone_kids base kv ks w hp (by omega)).mono ?_
  rintro e w1 ⟨v1, rfl, hO1, hB⟩
  go_wp2_with fail
  go_ret
  exact ⟨v1, rfl, hO1, hB⟩
theorem hasChunk_no (i : Int) (hi : bk = true ∨ i < 0 ∨ 32 ≤ i) : Calls Try.prog 64 #[at0 b, .int .i64 i] w fun e w' => e = .returned (.bool false) ∧ w = w' := by
  obtain ⟨c0, c1, c2, c3, c4, c5⟩ := h.cells
  clear h
  unfold at0
  cases bk with
  | true =>
    clear hi
    go_enter Try.func64, Try.ntmps64
    go_wp2_with fail
    go_ret
    exact ⟨rfl, rfl⟩
  | false =>
    simp only [Bool.false_eq_true, false_or] at hi
    by_cases h0 : i < 0
    · clear hi
      go_enter Try.func64, Try.ntmps64
      go_wp2_with fail
      go_ret
      exact ⟨rfl, rfl⟩
    · have h1 : 32 ≤ i := by omega
      have h2 : 0 ≤ i := by omega
      have h3 : decide (i < 32) = false := by simp; omega
      clear hi h0
      go_enter Try.func64, Try.ntmps64
      go_wp2_with fail
      go_ret
      exact ⟨rfl, rfl⟩
theorem hasChunk_yes (i : Nat) (hi : i < 32) (hb : bk = false) : Calls Try.prog 64 #[at0 b, .int .i64 i] w fun e w' => e = .returned (.bool true) ∧ w = w' := by
  obtain ⟨c0, c1, c2, c3, c4, c5⟩ := h.cells
  subst hb
  have h1 : (i : Int) < 32 := by omega
  clear h
  unfold at0
  go_enter Try.func64, Try.ntmps64
  go_wp2_with fail
  go_ret
  exact ⟨rfl, rfl⟩
end
/-- a pair, or the zero pair -/
def optP : Option Pr → Value
  | none => .agg #[.string ⟨#[]⟩, .string ⟨#[]⟩]
  | some p => p.v
def PairPost (r : Option Pr) (w : World) (e : Ending) (w' : World) : Prop := e = .returned (.tuple #[optP r, .bool r.isSome]) ∧ Below w.heap.size w w'
def KidPost (r : Option Nat) (w : World) (e : Ending) (w' : World) : Prop := e = .returned (.tuple #[pt r, .bool r.isSome]) ∧ Below w.heap.size w w'
theorem has_no (d : Nat) (i : Int) (w : World) (h : d < 4294967296) (hb : (d &&& onl i != 0) = false) : Calls Try.prog 28 #[.int .u32 d, .int .i64 i] w fun e w' => e = .returned (.bool false) ∧ w = w' :=
  (has_any d i w h).mono fun e w' ⟨he, hw⟩ => ⟨by rw [he, hb], hw⟩
set_option maxRecDepth 100000 in
theorem pair_none (nv : Value) (d : Nat) (i : Int) (w : World) (hd : d < 4294967296) (hb : Hid ((d &&& onl i != 0) = false)) (hdat : ∀ w', Below w.heap.size w w' → Calls Try.prog 11 #[nv] w' fun e w'' => e = .returned (.int .u32 d) ∧ w' = w'') :
    Calls Try.prog 35 #[nv, .int .i64 i] w (PairPost none w) := by
  have hbx := Blk.new w 32 #[.string ⟨#[]⟩, .string ⟨#[]⟩]
  have hBe := (Below.refl _ w).alloc (Nat.le_refl _) (.cells #[.string ⟨#[]⟩, .string ⟨#[]⟩] 32)
  have hdc := hdat _ hBe
  clear hdat
  go_enter Try.func35, Try.ntmps35
  go_wp2_with fail
  generalize w.alloc (.cells #[.string ⟨#[]⟩, .string ⟨#[]⟩] 32) = W at *
  refine hdc.mono ?_
  rintro e w' ⟨rfl, rfl⟩
  go_wp2_with fail
  refine (has_no d i _ hd hb.out).mono ?_
  rintro e w' ⟨rfl, rfl⟩
  have c0 : W.cell? ⟨w.heap.size, 0, none⟩ = some (.string ⟨#[]⟩) := hbx.cell 0
  have c1 : W.cell? ⟨w.heap.size, 1, none⟩ = some (.string ⟨#[]⟩) := hbx.cell 1
  have f0 := hbx.frozen 0
  have f1 := hbx.frozen 1
  go_wp2_with fail
  refine bodyPost_ret (v := .tuple #[.agg #[.string ⟨#[]⟩, .string ⟨#[]⟩], .bool false]) (by simp [results, Try.results35, go_sem, c0, c1]) rfl ⟨rfl, ?_⟩
  exact (hBe.setCell (p := ⟨w.heap.size, 0, none⟩) (Nat.le_refl _) _).setCell (p := ⟨w.heap.size, 1, none⟩) (Nat.le_refl _) _
theorem keepP {w w' : World} {b g r : Nat} {v2 v4 x y : Value} (h : w.cell? ⟨b, 2, none⟩ = some v2 ∧ w.cell? ⟨b, 4, none⟩ = some v4 ∧ w.cell? ⟨g, r * 2, none⟩ = some x ∧ w.cell? ⟨g, r * 2 + 1, none⟩ = some y) (hh : w'.heap = w.heap) :
    w'.cell? ⟨b, 2, none⟩ = some v2 ∧ w'.cell? ⟨b, 4, none⟩ = some v4 ∧ w'.cell? ⟨g, r * 2, none⟩ = some x ∧ w'.cell? ⟨g, r * 2 + 1, none⟩ = some y := by
  have e : ∀ a, w'.cell? a = w.cell? a := fun a => by simp [World.cell?, hh]
  rw [e, e, e, e]; exact h
set_option maxRecDepth 100000 in
set_option maxHeartbeats 4000000 in
theorem pair_some (base b : Nat) (o : Value) (bk : Bool) (d nn : Nat) (pv kv : Value) (xs : List Pr) (ks : List Nat) (w : World) (h : NdV base w b o bk d nn pv kv xs ks) (i : Nat) (hi : i < 32) (hd : d < 4294967296) (hb : Hid (d.testBit i = true)) (hr : cnt i d < xs.length) (hn : xs.length ≤ 800) :
    Calls Try.prog 35 #[at0 b, .int .i64 i] w (PairPost (some (pat xs (cnt i d))) w) := by
  obtain ⟨r, hrr⟩ : ∃ r, r = cnt i d := ⟨_, rfl⟩
  rw [← hrr] at hr ⊢
  have HR := Lib.hid hrr
  clear hrr
  have hbx := Blk.new w 32 #[.string ⟨#[]⟩, .string ⟨#[]⟩]
  have hBe := (Below.refl _ w).alloc (Nat.le_refl _) (.cells #[.string ⟨#[]⟩, .string ⟨#[]⟩] 32)
  have hN := h.below hBe
  have hlt := h.blk.lt
  obtain ⟨g, cap, cur, rfl, hg, hB, hc, hcm, hs, ht⟩ := own_blk h.prs (by omega)
  have hgl := hB.lt
  clear hB hs ht
  have hh : (w.alloc (.cells #[.string ⟨#[]⟩, .string ⟨#[]⟩] 32)).ownsRow base 32 2 (.slice (some ⟨g, 0, none⟩) xs.length cap) xs.length (flat xs) := hN.prs
  have c0 := hh.cellAt (r * 2) (by omega)
  have c1 := hh.cellAt (r * 2 + 1) (by omega)
  rw [(flat_get xs r _ (pat_get hr)).1] at c0
  rw [(flat_get xs r _ (pat_get hr)).2] at c1
  have hdat := data_any base b o bk d nn _ kv xs ks _ hN
  obtain ⟨-, -, d2, -, d4, -⟩ := hN.cells
  have B2 : (r : Int) < (xs.length : Int) := by omega
  unfold at0 at *
  clear h hN hh
  go_enter Try.func35, Try.ntmps35
  go_wp2_with fail
  generalize w.alloc (.cells #[.string ⟨#[]⟩, .string ⟨#[]⟩] 32) = W at *
  obtain ⟨N, hNN⟩ : ∃ N, N = w.heap.size := ⟨_, rfl⟩
  rw [← hNN] at hbx hBe hlt hgl ⊢
  have HN := Lib.hid hNN
  clear hNN
  refine hdat.mono ?_
  rintro e w' ⟨rfl, rfl⟩
  go_wp2_with fail
  refine (has_nat d i _ hd hi true hb.out).mono ?_
  rintro e w' ⟨rfl, rfl⟩
  go_wp2_with fail
  have z0 : W.cell? ⟨N, 0, none⟩ = some (.string ⟨#[]⟩) := hbx.cell 0
  have z1 : W.cell? ⟨N, 1, none⟩ = some (.string ⟨#[]⟩) := hbx.cell 1
  have y0 := hbx.frozen 0
  have y1 := hbx.frozen 1
  have n1 : ¬ (b = N) := by omega
  have n2 : ¬ (g = N) := by omega
  have n3 : ¬ (N = b) := by omega
  have n4 : ¬ (N = g) := by omega
  go_region_held3 (fun w' : World => w'.cell? ⟨b, 2, none⟩ = some (.int .u32 d) ∧ w'.cell? ⟨b, 4, none⟩ = some (.slice (some ⟨g, 0, none⟩) xs.length cap) ∧ w'.cell? ⟨g, r * 2, none⟩ = some (.string (pat xs r).1) ∧ w'.cell? ⟨g, r * 2 + 1, none⟩ = some (.string (pat xs r).2)) (first | exact ⟨d2, d4, c0, c1⟩ | exact keepP (by assumption) rfl | go_keep) (first
    | (go_at_call 29; refine (rank_nat d i _ hd).mono ?_; rintro e w' ⟨rfl, k, rfl⟩; rw [← HR.out]))
  go_wp2_with fail
  refine bodyPost_ret (v := .tuple #[.agg #[.string (pat xs r).1, .string (pat xs r).2], .bool true]) (by simp [results, Try.results35, go_sem, z0, z1]) rfl ⟨rfl, ?_⟩
  rw [HN.out] at hBe
  have hBd : Below w.heap.size w (W.drewN (1 + k)) := ⟨hBe.os, hBe.tape, hBe.output, hBe.size, hBe.block⟩
  exact (hBd.setCell (p := ⟨N, 0, none⟩) (by rw [HN.out]; exact Nat.le_refl _) _).setCell (p := ⟨N, 1, none⟩) (by rw [HN.out]; exact Nat.le_refl _) _
set_option maxRecDepth 100000 in
theorem kid_none (nv : Value) (d : Nat) (i : Int) (w : World) (hd : d < 4294967296) (hb : Hid ((d &&& onl i != 0) = false)) (hdat : Calls Try.prog 12 #[nv] w fun e w'' => e = .returned (.int .u32 d) ∧ w = w'') :
    Calls Try.prog 13 #[nv, .int .i64 i] w (KidPost none w) := by
  go_enter Try.func13, Try.ntmps13
  go_wp2_with fail
  refine hdat.mono ?_
  rintro e w' ⟨rfl, rfl⟩
  go_wp2_with fail
  refine (has_no d i _ hd hb.out).mono ?_
  rintro e w' ⟨rfl, rfl⟩
  go_wp2_with fail
  go_ret2
  exact ⟨rfl, Below.refl _ _⟩
theorem kcs_get (ks : List Nat) (r k : Nat) (h : ks[r]? = some k) : (kcs ks)[r]? = some (.pointer (some ⟨k, 0, none⟩)) := by simp [kcs, h, at0]
set_option maxRecDepth 100000 in
set_option maxHeartbeats 4000000 in
theorem kid_some (base b : Nat) (o : Value) (bk : Bool) (d nn : Nat) (pv kv : Value) (xs : List Pr) (ks : List Nat) (w : World) (h : NdV base w b o bk d nn pv kv xs ks) (i k : Nat) (hi : i < 32) (hd : nn < 4294967296) (hb : Hid (nn.testBit i = true)) (hr : ks[cnt i nn]? = some k) (hn : ks.length ≤ 800) :
    Calls Try.prog 13 #[at0 b, .int .i64 i] w (KidPost (some k) w) := by
  obtain ⟨r, hrr⟩ : ∃ r, r = cnt i nn := ⟨_, rfl⟩
  rw [← hrr] at hr
  have HR := Lib.hid hrr
  clear hrr
  have hrl : r < ks.length := (List.getElem?_eq_some_iff.1 hr).1
  obtain ⟨g, cap, cur, rfl, hg, hB, hc, hcm, hs, ht⟩ := own_blk h.kds (by omega)
  clear hB hs ht
  have hh : w.ownsRow base 29 1 (.slice (some ⟨g, 0, none⟩) ks.length cap) ks.length (kcs ks) := h.kds
  have c0 := hh.cellAt r (by omega)
  rw [kcs_get ks r k hr] at c0
  have hdat := nodes_any base b o bk d nn pv _ xs ks _ h
  obtain ⟨-, -, -, d3, -, d5⟩ := h.cells
  have B2 : (r : Int) < (ks.length : Int) := by omega
  unfold at0 at *
  clear h hh hr
  go_enter Try.func13, Try.ntmps13
  go_wp2_with fail
  refine hdat.mono ?_
  rintro e w' ⟨rfl, rfl⟩
  go_wp2_with fail
  refine (has_nat nn i _ hd hi true hb.out).mono ?_
  rintro e w' ⟨rfl, rfl⟩
  go_wp2_with fail
  have hrk : ∀ w, Calls Try.prog 29 #[.int .u32 nn, .int .i64 i] w fun e w' => e = .returned (.int .i64 r) ∧ ∃ k, w' = w.drewN k := fun w => by rw [HR.out]; exact rank_nat nn i w hd
  go_quiet ((go_at_call 29; exact Calls.quiet_of (hrk _)))
  go_wp2_with fail
  go_ret2
  exact ⟨rfl, ⟨rfl, rfl, rfl, Nat.le_refl _, fun _ _ => rfl⟩⟩
theorem inner_any (w : World) : Calls Try.prog 19 #[] w fun e w' => e = .returned (at0 w.heap.size) ∧ NdV w.heap.size w' w.heap.size (pt none) false 0 0 (.slice none 0 0) (.slice none 0 0) [] [] ∧ Below w.heap.size w w' := by
  go_enter Try.func19, Try.ntmps19
  go_wp2_with fail
  go_ret
  exact ⟨rfl, ⟨Blk.new w 63 _, Nat.le_refl _, World.ownsRow_nil _ _ _ _, World.ownsRow_nil _ _ _ _⟩, (Below.refl _ _).alloc (Nat.le_refl _) _⟩
theorem bucket_any (w : World) : Calls Try.prog 61 #[] w fun e w' => e = .returned (at0 w.heap.size) ∧ NdV w.heap.size w' w.heap.size (pt none) true 0 0 (.slice none 0 0) (.slice none 0 0) [] [] ∧ Below w.heap.size w w' := by
  go_enter Try.func61, Try.ntmps61
  go_wp2_with fail
  go_ret
  exact ⟨rfl, ⟨Blk.new w 63 _, Nat.le_refl _, World.ownsRow_nil _ _ _ _, World.ownsRow_nil _ _ _ _⟩, (Below.refl _ _).alloc (Nat.le_refl _) _⟩
end Go.Proofs.Ytfmbikmpobieoaa
/- The node that a change is made to. -/
namespace Go.Proofs.Ytfmbikmpobieoaa
open Go.RowKit Go.Lib
set_option linter.unusedVariables false
set_option maxRecDepth 100000
set_option maxRecDepth 100000
set_option linter.unusedSimpArgs false
attribute [local irreducible] cnt
theorem toChange_own (base b : Nat) (ow tk : Option Nat) (lo l bk : Bool) (d nn : Nat) (pv kv : Value) (xs : List Pr) (ks : List Nat) (w : World) (h : NdV base w b (pt ow) bk d nn pv kv xs ks) (ht : TV w tk l) (ho : TV w ow lo) (he : Hid (ownB ow tk l = true)) :
    Calls Try.prog 65 #[at0 b, pt tk] w fun e w' => e = .returned (at0 b) ∧ w = w' := by
  have hc := owned_any base b ow tk lo l bk d nn pv kv xs ks w h ht ho
  rw [he.out] at hc
  unfold at0 at *
  go_enter Try.func65, Try.ntmps65
  go_wp2_with fail
  refine hc.mono ?_
  rintro e w' ⟨rfl, rfl⟩
  go_wp2_with fail
  go_ret
  exact ⟨rfl, rfl⟩
/-- the owner that a copy has -/
def newOw (tk : Option Nat) (l : Bool) : Option Nat := if l then tk else none
def NewPost5 (bk : Bool) (ow : Option Nat) (d nn : Nat) (xs : List Pr) (ks : List Nat) (w : World) (e : Ending) (w' : World) : Prop :=
  ∃ b' pv' kv', e = .returned (at0 b') ∧ NdV w.heap.size w' b' (pt ow) bk d nn pv' kv' xs ks ∧ Below w.heap.size w w'
theorem keep1 {w w' : World} {b : Nat} {v : Value} (h : w.cell? ⟨b, 1, none⟩ = some v) (hb : Below w.heap.size w w') : w'.cell? ⟨b, 1, none⟩ = some v :=
  (hb.cell (World.block_lt_of_cell? w _ h)).trans h
theorem NdV.new {w w2 : World} {bk : Bool} {d nn : Nat} {pv kv : Value} {xs : List Pr} {ks : List Nat} {B : Nat} (hp : Own B w2 pv xs) (hk : OwnK B w2 kv ks) (hB : B ≤ w2.heap.size) (o : Value) :
    NdV B (w2.alloc (.cells #[o, .bool bk, .int .u32 d, .int .u32 nn, pv, kv] 63)) w2.heap.size o bk d nn pv kv xs ks :=
  ⟨Blk.new w2 63 _, hB, World.ownsRow.alloc hp _, World.ownsRow.alloc hk _⟩
set_option maxRecDepth 100000 in
set_option maxHeartbeats 8000000 in
theorem toChange_new (base b : Nat) (ow tk : Option Nat) (lo l bk : Bool) (d nn : Nat) (pv kv : Value) (xs : List Pr) (ks : List Nat) (w : World) (h : NdV base w b (pt ow) bk d nn pv kv xs ks) (ht : TV w tk l) (ho : TV w ow lo) (he : Hid (ownB ow tk l = false)) (hn1 : xs.length ≤ 800) (hn2 : ks.length ≤ 800) :
    Calls Try.prog 65 #[at0 b, pt tk] w (NewPost5 bk (newOw tk l) d nn xs ks w) := by
  have hc := owned_any base b ow tk lo l bk d nn pv kv xs ks w h ht ho
  rw [he.out] at hc
  have hd : NdV base w.drew b (pt ow) bk d nn pv kv xs ks := h.drewN 1
  obtain ⟨-, c1, -⟩ := h.cells
  have ht1 : TV w.drew tk l := ht
  have hBe : Below w.heap.size w w.drew := (Below.refl _ _).drew
  unfold at0 at *
  clear h ho
  go_enter Try.func65, Try.ntmps65
  go_wp2_with fail
  refine hc.mono ?_
  rintro e w' ⟨rfl, rfl⟩
  go_wp2_with fail
  go_region_held3 (fun w' : World => w'.cell? ⟨b, 1, none⟩ = some (.bool bk)) (first | exact c1 | exact keep1 (by assumption) hB | go_keep) (first
    | (go_at_call 77; refine (copied_any base b (pt ow) bk d nn pv kv xs ks _ hd hn1 hn2).mono ?_; rintro e w1 ⟨p1, k1, rfl, hO1, hO2, hB⟩; replace ht1 := ht1.below hB; replace hBe := hBe.trans (hB.mono hBe.size); obtain ⟨A1, n1, q1, rfl⟩ := hO1.form; obtain ⟨A2, n2, q2, rfl⟩ := hO2.form))
  have hO1' : Own w.heap.size w1 (.slice A1 n1 q1) xs := hO1
  have hO2' : OwnK w.heap.size w1 (.slice A2 n2 q2) ks := hO2
  have h9 := NdV.new (bk := bk) (d := d) (nn := nn) (w := w) hO1' hO2' hBe.size (.pointer none)
  have hB9 := hBe.alloc hBe.size (.cells #[.pointer none, .bool bk, .int .u32 d, .int .u32 nn, .slice A1 n1 q1, .slice A2 n2 q2] 63)
  have ht9 := ht1.below ((Below.refl _ w1).alloc (Nat.le_refl _) (.cells #[.pointer none, .bool bk, .int .u32 d, .int .u32 nn, .slice A1 n1 q1, .slice A2 n2 q2] 63))
  generalize w1.alloc (.cells #[.pointer none, .bool bk, .int .u32 d, .int .u32 nn, .slice A1 n1 q1, .slice A2 n2 q2] 63) = W9 at *
  generalize w1.heap.size = N at *
  clear hO1 hO2 hO1' hO2' hBe ht1 hB hd c1 hc ht
  go_wp2_with fail
  refine (live_tv tk l W9 ht9).mono ?_
  rintro e w' ⟨rfl, rfl⟩
  cases l with
  | false =>
    go_wp2_with fail
    go_ret
    exact ⟨N, _, _, rfl, h9, hB9⟩
  | true =>
    obtain ⟨t, rfl⟩ : ∃ t, tk = some t := by
      rcases ht9 with ⟨_, e⟩ | ⟨t, p, id, e, _⟩
      · cases e
      · exact ⟨t, e⟩
    obtain ⟨c0, -⟩ := h9.cells
    have f0 := h9.blk.frozen 0
    have h10 := h9.setO (pt (some t))
    have hB10 := hB9.setCell (p := ⟨N, 0, none⟩) h9.ge (pt (some t))
    unfold pt at0 at *
    go_wp2_with fail
    go_ret
    exact ⟨N, _, _, rfl, h10, hB10⟩
end Go.Proofs.Ytfmbikmpobieoaa
/- The changes of a node: SetPair, SetKid, Clear. -/
namespace Go.Proofs.Ytfmbikmpobieoaa
open Go.RowKit Go.Lib
set_option linter.unusedVariables false
set_option maxRecDepth 100000
set_option maxRecDepth 100000
set_option linter.unusedSimpArgs false
attribute [local irreducible] cnt
/-- where a change is made: in place, or in a new node -/
structure Chg (own : Bool) (b : Nat) (pv kv : Value) (b1 : Nat) (pv1 kv1 : Value) (w w' : World) : Prop where
  place : own = true → b1 = b
  new : own = false → w.heap.size ≤ b1
  foot : ∀ x ∈ foot b1 pv1 kv1, (own = true ∧ x ∈ Ytfmbikmpobieoaa.foot b pv kv) ∨ w.heap.size ≤ x
  keep : Keep (if own = true then Ytfmbikmpobieoaa.foot b pv kv else []) w w'
theorem Chg.moves {own : Bool} {b b1 : Nat} {pv kv pv1 kv1 pv2 kv2 : Value} {w w1 w2 : World} (h : Chg own b pv kv b1 pv1 kv1 w w1) (m : Moves b1 pv1 kv1 pv2 kv2 w1 w2) : Chg own b pv kv b1 pv2 kv2 w w2 := by
  have hs := h.keep.all.size
  refine ⟨h.place, h.new, fun x hx => ?_, h.keep.comp m.2.2 fun y hy => ?_⟩
  · simp only [Ytfmbikmpobieoaa.foot, List.mem_cons, List.mem_append, Option.mem_toList] at hx
    rcases hx with rfl | e | e
    · exact h.foot x (by simp [Ytfmbikmpobieoaa.foot])
    · rcases m.1 x e with e' | e'
      · exact h.foot x (by simp [Ytfmbikmpobieoaa.foot, e'])
      · exact .inr (by omega)
    · rcases m.2.1 x e with e' | e'
      · exact h.foot x (by simp [Ytfmbikmpobieoaa.foot, e'])
      · exact .inr (by omega)
  · rcases h.foot y hy with ⟨e, e'⟩ | e
    · left; rw [if_pos e]; exact e'
    · exact .inr e
theorem Chg.below {own : Bool} {b b1 : Nat} {pv kv pv1 kv1 : Value} {w0 w w1 : World} (h : Chg own b pv kv b1 pv1 kv1 w w1) (hb : Below w0.heap.size w0 w) : Chg own b pv kv b1 pv1 kv1 w0 w1 := by
  have hs := hb.size
  refine ⟨h.place, fun e => Nat.le_trans hs (h.new e), fun x hx => ?_, (Keep.of_below (X := if own = true then Ytfmbikmpobieoaa.foot b pv kv else []) hb).trans h.keep⟩
  rcases h.foot x hx with e | e
  · exact .inl e
  · exact .inr (by omega)
theorem NdV.base {B B' : Nat} {w : World} {b : Nat} {o : Value} {bk : Bool} {d nn : Nat} {pv kv : Value} {xs : List Pr} {ks : List Nat} (h : NdV B w b o bk d nn pv kv xs ks) (hb : B' ≤ B) : NdV B' w b o bk d nn pv kv xs ks :=
  ⟨h.blk, Nat.le_trans hb h.ge, h.prs.base hb, h.kds.base hb⟩
theorem NdV.footGe {B : Nat} {w : World} {b : Nat} {o : Value} {bk : Bool} {d nn : Nat} {pv kv : Value} {xs : List Pr} {ks : List Nat} (h : NdV B w b o bk d nn pv kv xs ks) : ∀ x ∈ foot b pv kv, B ≤ x := by
  intro x hx
  simp only [foot, List.mem_cons, List.mem_append, Option.mem_toList] at hx
  rcases hx with rfl | e | e
  · exact h.ge
  · exact own_ge h.prs x e
  · exact own_ge h.kds x e
theorem NdV.footLt {B : Nat} {w : World} {b : Nat} {o : Value} {bk : Bool} {d nn : Nat} {pv kv : Value} {xs : List Pr} {ks : List Nat} (h : NdV B w b o bk d nn pv kv xs ks) : ∀ x ∈ foot b pv kv, x < w.heap.size := by
  intro x hx
  simp only [foot, List.mem_cons, List.mem_append, Option.mem_toList] at hx
  rcases hx with rfl | e | e
  · exact h.blk.lt
  · exact (World.ownsRow.lt h.prs x e).2
  · exact (World.ownsRow.lt h.kds x e).2
/-- what a change leaves -/
def ChgPost (base : Nat) (own : Bool) (b : Nat) (pv kv : Value) (ow : Option Nat) (bk : Bool) (d nn : Nat) (xs : List Pr) (ks : List Nat) (w : World) (e : Ending) (w' : World) : Prop :=
  ∃ b1 pv1 kv1, e = .returned (at0 b1) ∧ NdV base w' b1 (pt ow) bk d nn pv1 kv1 xs ks ∧ Chg own b pv kv b1 pv1 kv1 w w'
theorem newOw_own {ow tk : Option Nat} {l : Bool} (h : ownB ow tk l = true) : newOw tk l = ow := by
  unfold ownB at h
  simp only [Bool.and_eq_true, decide_eq_true_eq] at h
  unfold newOw
  rw [h.1, h.2]; rfl
theorem toChange_any (base b : Nat) (ow tk : Option Nat) (lo l bk : Bool) (d nn : Nat) (pv kv : Value) (xs : List Pr) (ks : List Nat) (w : World) (h : NdV base w b (pt ow) bk d nn pv kv xs ks) (ht : TV w tk l) (ho : TV w ow lo) (hn1 : xs.length ≤ 800) (hn2 : ks.length ≤ 800) (hbase : base ≤ w.heap.size) :
    Calls Try.prog 65 #[at0 b, pt tk] w (ChgPost base (ownB ow tk l) b pv kv (newOw tk l) bk d nn xs ks w) := by
  cases he : ownB ow tk l with
  | true =>
    refine (toChange_own base b ow tk lo l bk d nn pv kv xs ks w h ht ho (Lib.hid he)).mono ?_
    rintro e w' ⟨rfl, rfl⟩
    refine ⟨b, pv, kv, rfl, by rw [newOw_own he]; exact h, fun _ => rfl, (fun e => by cases e), fun x hx => .inl ⟨rfl, hx⟩, Keep.refl _ _⟩
  | false =>
    refine (toChange_new base b ow tk lo l bk d nn pv kv xs ks w h ht ho (Lib.hid he) hn1 hn2).mono ?_
    rintro e w' ⟨b1, pv1, kv1, rfl, h1, hB⟩
    exact ⟨b1, pv1, kv1, rfl, h1.base hbase, (fun e => by cases e), fun _ => h1.ge, fun x hx => .inr (h1.footGe x hx), Keep.of_below hB⟩
/-- what is asked of a node's sets and lists, at chunk i -/
structure Fits (d nn : Nat) (xs : List Pr) (ks : List Nat) (i : Nat) : Prop where
  hd : d < 4294967296
  hn : nn < 4294967296
  rd : d.testBit i = true → cnt i d < xs.length
  rn : nn.testBit i = true → cnt i nn < ks.length
  ld : cnt i d ≤ xs.length
  ln : cnt i nn ≤ ks.length
  lx : xs.length ≤ 800
  lk : ks.length ≤ 800
set_option maxRecDepth 100000 in
set_option maxHeartbeats 4000000 in
theorem setPair_in (base b i : Nat) (p : Pr) (ow tk : Option Nat) (lo l : Bool) (d nn : Nat) (pv kv : Value) (xs : List Pr) (ks : List Nat) (w : World) (h : NdV base w b (pt ow) false d nn pv kv xs ks) (ht : TV w tk l) (ho : TV w ow lo) (hi : i < 32) (hf : Fits d nn xs ks i) (hbase : base ≤ w.heap.size) :
    Calls Try.prog 62 #[at0 b, pt tk, .int .i64 i, p.v] w (ChgPost base (ownB ow tk l) b pv kv (newOw tk l) false (d ||| onl (i : Int)) (clrB nn i) (setL d i p xs) (clrL nn i ks) w) := by
  have hBe := (Below.refl _ w).alloc (Nat.le_refl _) (.cells #[.string p.1, .string p.2] 32)
  have hbx := Blk.new w 32 #[.string p.1, .string p.2]
  have h1 := h.below hBe
  have ht1 := ht.below hBe
  have ho1 := ho.below hBe
  have hfl := h.footLt
  have HF := Lib.hid hf
  have HFL := Lib.hid hfl
  have lx := hf.lx
  have lk := hf.lk
  unfold Pr.v
  clear h ht ho hf hfl
  go_enter Try.func62, Try.ntmps62
  go_upto_region 1 with (fail)
  generalize w.alloc (.cells #[.string p.1, .string p.2] 32) = W at *
  obtain ⟨N, hN⟩ : ∃ N, N = w.heap.size := ⟨_, rfl⟩
  rw [← hN] at hbx ⊢
  have HN := Lib.hid hN
  clear hN
  go_wp2_with fail
  refine (hasChunk_yes base b (pt ow) false d nn pv kv xs ks W h1 i hi rfl).mono ?_
  rintro e w' ⟨rfl, rfl⟩
  go_wp2_with fail
  refine (toChange_any base b ow tk lo l false d nn pv kv xs ks W h1 ht1 ho1 lx lk (Nat.le_trans hbase hBe.size)).mono ?_
  rintro e w1 ⟨b1, pv1, kv1, rfl, h2, hc⟩
  have hbx1 : Blk w1 N 32 #[.string p.1, .string p.2] := hbx.keep hc.keep (by
    split
    · exact fun hm => by have := HFL.out N hm; have := HN.out; omega
    · simp)
  have b0 : w1.drew.cell? ⟨N, 0, none⟩ = some (.string p.1) := hbx1.cell 0
  have b1' : w1.drew.cell? ⟨N, 1, none⟩ = some (.string p.2) := hbx1.cell 1
  have e0 : w1.cell? ⟨N, 0, none⟩ = some (.string p.1) := hbx1.cell 0
  have e1 : w1.cell? ⟨N, 1, none⟩ = some (.string p.2) := hbx1.cell 1
  have h2d : NdV base w1.drew b1 (pt (newOw tk l)) false d nn pv1 kv1 xs ks := h2.drewN 1
  have hc0 := hc.below hBe
  have hcd : Chg (ownB ow tk l) b pv kv b1 pv1 kv1 w w1.drew := ⟨hc0.place, hc0.new, hc0.foot, hc0.keep.drew⟩
  have hbs : base ≤ w1.drew.heap.size := Nat.le_trans hbase hc0.keep.all.size
  clear h1 ht1 ho1 hc hc0 hbx hbx1 h2
  unfold at0
  go_wp2_with fail
  go_still_tail 5, (by kernel_rfl)
  change wpList _ _ _ _ _ w1.drew
  generalize w1.drew = W1 at *
  clear b0 b1' e0 e1
  go_wp2_with fail
  refine (setPair_any base b1 i p (pt (newOw tk l)) false d nn pv1 kv1 xs ks W1 h2d HF.out.hd HF.out.hn hi HF.out.rd HF.out.rn HF.out.ld lx lk hbs).mono ?_
  rintro e w2 ⟨rfl, pv2, kv2, h3, hm⟩
  have hc3 := hcd.moves hm
  clear hcd hm h2d
  go_wp2_with fail
  go_ret
  exact ⟨b1, pv2, kv2, rfl, h3, hc3⟩
set_option maxRecDepth 100000 in
set_option maxHeartbeats 4000000 in
theorem setPair_out (base b : Nat) (i : Int) (p : Pr) (o tv : Value) (bk : Bool) (d nn : Nat) (pv kv : Value) (xs : List Pr) (ks : List Nat) (w : World) (h : NdV base w b o bk d nn pv kv xs ks) (hi : bk = true ∨ i < 0 ∨ 32 ≤ i) :
    Calls Try.prog 62 #[at0 b, tv, .int .i64 i, p.v] w fun e w' => e = .returned (at0 b) ∧ Below w.heap.size w w' := by
  have hBe := (Below.refl _ w).alloc (Nat.le_refl _) (.cells #[.string p.1, .string p.2] 32)
  have h1 := h.below hBe
  have hc := hasChunk_no base b o bk d nn pv kv xs ks _ h1 i hi
  unfold Pr.v
  unfold at0 at *
  clear h h1 hi
  go_enter Try.func62, Try.ntmps62
  go_upto_region 1 with (fail)
  generalize w.alloc (.cells #[.string p.1, .string p.2] 32) = W at *
  go_wp2_with fail
  refine hc.mono ?_
  rintro e w' ⟨rfl, rfl⟩
  go_wp2_with fail
  go_ret
  exact ⟨rfl, hBe⟩
set_option maxRecDepth 100000 in
set_option maxHeartbeats 4000000 in
theorem setPair_nil (i : Int) (p : Pr) (tv : Value) (w : World) : Calls Try.prog 62 #[.pointer none, tv, .int .i64 i, p.v] w fun e w' => e = .returned (.pointer none) ∧ Below w.heap.size w w' := by
  have hBe := (Below.refl _ w).alloc (Nat.le_refl _) (.cells #[.string p.1, .string p.2] 32)
  have hc := hasChunk_nil i (w.alloc (.cells #[.string p.1, .string p.2] 32))
  unfold Pr.v
  go_enter Try.func62, Try.ntmps62
  go_upto_region 1 with (fail)
  generalize w.alloc (.cells #[.string p.1, .string p.2] 32) = W at *
  go_wp2_with fail
  refine hc.mono ?_
  rintro e w' ⟨rfl, rfl⟩
  go_wp2_with fail
  go_ret
  exact ⟨rfl, hBe⟩
set_option maxRecDepth 100000 in
set_option maxHeartbeats 4000000 in
theorem clear_in (base b i : Nat) (ow tk : Option Nat) (lo l : Bool) (d nn : Nat) (pv kv : Value) (xs : List Pr) (ks : List Nat) (w : World) (h : NdV base w b (pt ow) false d nn pv kv xs ks) (ht : TV w tk l) (ho : TV w ow lo) (hi : i < 32) (hf : Fits d nn xs ks i) (hbase : base ≤ w.heap.size) :
    Calls Try.prog 44 #[at0 b, pt tk, .int .i64 i] w (ChgPost base (ownB ow tk l) b pv kv (newOw tk l) false (clrB d i) (clrB nn i) (clrL d i xs) (clrL nn i ks) w) := by
  have HF := Lib.hid hf
  have lx := hf.lx
  have lk := hf.lk
  clear hf
  go_enter Try.func44, Try.ntmps44
  go_wp2_with fail
  refine (hasChunk_yes base b (pt ow) false d nn pv kv xs ks w h i hi rfl).mono ?_
  rintro e w' ⟨rfl, rfl⟩
  go_wp2_with fail
  refine (toChange_any base b ow tk lo l false d nn pv kv xs ks w h ht ho lx lk hbase).mono ?_
  rintro e w1 ⟨b1, pv1, kv1, rfl, h2, hc⟩
  clear h ht ho
  unfold at0
  go_wp2_with fail
  refine (clearPair_any base b1 i (pt (newOw tk l)) false d nn pv1 kv1 xs ks w1 h2 HF.out.hd hi HF.out.rd (by omega)).mono ?_
  rintro e w2 ⟨rfl, pv2, kv2, h3, hm⟩
  have hc3 := hc.moves hm
  clear hc hm h2
  go_wp2_with fail
  refine (clearKid_any base b1 i (pt (newOw tk l)) false (clrB d i) nn pv2 kv2 (clrL d i xs) ks w2 h3 HF.out.hn hi HF.out.rn (by omega)).mono ?_
  rintro e w3 ⟨rfl, pv3, kv3, h4, hm⟩
  have hc4 := hc3.moves hm
  clear hc3 hm h3
  go_wp2_with fail
  go_ret
  exact ⟨b1, pv3, kv3, rfl, h4, hc4⟩
theorem clear_out (base b : Nat) (i : Int) (o tv : Value) (bk : Bool) (d nn : Nat) (pv kv : Value) (xs : List Pr) (ks : List Nat) (w : World) (h : NdV base w b o bk d nn pv kv xs ks) (hi : bk = true ∨ i < 0 ∨ 32 ≤ i) :
    Calls Try.prog 44 #[at0 b, tv, .int .i64 i] w fun e w' => e = .returned (at0 b) ∧ w = w' := by
  have hc := hasChunk_no base b o bk d nn pv kv xs ks _ h i hi
  unfold at0 at *
  clear h hi
  go_enter Try.func44, Try.ntmps44
  go_wp2_with fail
  refine hc.mono ?_
  rintro e w' ⟨rfl, rfl⟩
  go_wp2_with fail
  go_ret
  exact ⟨rfl, rfl⟩
theorem clear_nil (i : Int) (tv : Value) (w : World) : Calls Try.prog 44 #[.pointer none, tv, .int .i64 i] w fun e w' => e = .returned (.pointer none) ∧ w = w' := by
  have hc := hasChunk_nil i w
  go_enter Try.func44, Try.ntmps44
  go_wp2_with fail
  refine hc.mono ?_
  rintro e w' ⟨rfl, rfl⟩
  go_wp2_with fail
  go_ret
  exact ⟨rfl, rfl⟩
set_option maxRecDepth 100000 in
set_option maxHeartbeats 4000000 in
theorem setKid_in (base b i k : Nat) (ow tk : Option Nat) (lo l : Bool) (d nn : Nat) (pv kv : Value) (xs : List Pr) (ks : List Nat) (w : World) (h : NdV base w b (pt ow) false d nn pv kv xs ks) (ht : TV w tk l) (ho : TV w ow lo) (hi : i < 32) (hf : Fits d nn xs ks i) (hbase : base ≤ w.heap.size) :
    Calls Try.prog 60 #[at0 b, pt tk, .int .i64 i, at0 k] w (ChgPost base (ownB ow tk l) b pv kv (newOw tk l) false (clrB d i) (nn ||| onl (i : Int)) (clrL d i xs) (setL nn i k ks) w) := by
  have HF := Lib.hid hf
  have lx := hf.lx
  have lk := hf.lk
  have hcy := hasChunk_yes base b (pt ow) false d nn pv kv xs ks w h i hi rfl
  have htc := toChange_any base b ow tk lo l false d nn pv kv xs ks w h ht ho lx lk hbase
  clear hf h ht ho
  unfold at0 at *
  go_enter Try.func60, Try.ntmps60
  go_wp2_with fail
  refine hcy.mono ?_
  rintro e w' ⟨rfl, rfl⟩
  go_wp2_with fail
  refine htc.mono ?_
  rintro e w1 ⟨b1, pv1, kv1, rfl, h2, hc⟩
  have hbs : base ≤ w1.heap.size := Nat.le_trans hbase hc.keep.all.size
  have hsk := setKid_any base b1 i k (pt (newOw tk l)) false d nn pv1 kv1 xs ks w1 h2 HF.out.hd HF.out.hn hi HF.out.rd HF.out.rn HF.out.ln lx lk hbs
  unfold at0 at *
  go_wp2_with fail
  refine hsk.mono ?_
  rintro e w2 ⟨rfl, pv2, kv2, h3, hm⟩
  have hc3 := hc.moves hm
  clear hc hm h2 hsk
  go_wp2_with fail
  go_ret
  exact ⟨b1, pv2, kv2, rfl, h3, hc3⟩
theorem setKid_out (base b : Nat) (i : Int) (k : Nat) (o tv : Value) (bk : Bool) (d nn : Nat) (pv kv : Value) (xs : List Pr) (ks : List Nat) (w : World) (h : NdV base w b o bk d nn pv kv xs ks) (hi : bk = true ∨ i < 0 ∨ 32 ≤ i) :
    Calls Try.prog 60 #[at0 b, tv, .int .i64 i, at0 k] w fun e w' => e = .returned (at0 b) ∧ w = w' := by
  have hc := hasChunk_no base b o bk d nn pv kv xs ks _ h i hi
  unfold at0 at *
  clear h hi
  go_enter Try.func60, Try.ntmps60
  go_wp2_with fail
  refine hc.mono ?_
  rintro e w' ⟨rfl, rfl⟩
  go_wp2_with fail
  go_ret
  exact ⟨rfl, rfl⟩
theorem setKid_nil (i : Int) (k : Nat) (tv : Value) (w : World) : Calls Try.prog 60 #[.pointer none, tv, .int .i64 i, at0 k] w fun e w' => e = .returned (.pointer none) ∧ w = w' := by
  have hc := hasChunk_nil i w
  unfold at0
  go_enter Try.func60, Try.ntmps60
  go_wp2_with fail
  refine hc.mono ?_
  rintro e w' ⟨rfl, rfl⟩
  go_wp2_with fail
  go_ret
  exact ⟨rfl, rfl⟩
/-- with a nil child SetKid is Clear -/
theorem setKid_clear (nv tv : Value) (i : Int) (w : World) (R : Ending → World → Prop) (hc : Calls Try.prog 44 #[nv, tv, .int .i64 i] w fun e w' => ∃ a, e = .returned (.pointer a) ∧ R (.returned (.pointer a)) w') : Calls Try.prog 60 #[nv, tv, .int .i64 i, .pointer none] w R := by
  go_enter Try.func60, Try.ntmps60
  go_wp2_with fail
  refine hc.mono ?_
  rintro e w' ⟨a, rfl, hR⟩
  go_wp2_with fail
  exact hR
end Go.Proofs.Ytfmbikmpobieoaa
