/- Whose own a node is; what is read of a node. -/
import Derived.Test.YtgldgdpgbfejmaaNi
namespace Go.Proofs.Ytgldgdpgbfejmaa
open Go.RowKit Go.Lib
set_option linter.unusedVariables false
set_option linter.unusedSimpArgs false
attribute [local irreducible] cnt
/-- a pointer to a block, or nil -/
def pt : Option Nat → Value
  | none => .pointer none
  | some t => at0 t
/-- a token, or nil: whether it is live -/
def TV (w : World) (tk : Option Nat) (l : Bool) : Prop := (tk = none ∧ l = false) ∨ ∃ t p id, tk = some t ∧ Tok w t p id l
theorem TV.nil (w : World) : TV w none false := .inl ⟨rfl, rfl⟩
theorem TV.tok {w : World} {t p id : Nat} {l : Bool} (h : Tok w t p id l) : TV w (some t) l := .inr ⟨t, p, id, rfl, h⟩
theorem Tok.type {w : World} {t p id : Nat} {l : Bool} (h : Tok w t p id l) {X : List Nat} (hX : ∀ x ∈ X, ∀ cs, ¬ Blk w x 112 cs) : t ∉ X := fun hm => hX t hm _ h
theorem TV.keep {w w' : World} {tk : Option Nat} {l : Bool} (h : TV w tk l) {X : List Nat} (hk : Keep X w w') (hX : ∀ x ∈ X, ∀ cs, ¬ Blk w x 112 cs) : TV w' tk l := by
  rcases h with h | ⟨t, p, id, e, h⟩
  · exact .inl h
  · exact .inr ⟨t, p, id, e, h.keep hk (h.type hX)⟩
theorem TV.below {w w' : World} {tk : Option Nat} {l : Bool} (h : TV w tk l) (hb : Below w.heap.size w w') : TV w' tk l := h.keep (Keep.of_below (X := []) hb) (by simp)
theorem TV.drewN {w : World} {tk : Option Nat} {l : Bool} (h : TV w tk l) (n : Nat) : TV (w.drewN n) tk l := h
theorem live_tv (tk : Option Nat) (l : Bool) (w : World) (h : TV w tk l) : Calls Try.prog 65 #[pt tk] w fun e w' => e = .returned (.bool l) ∧ w = w' := by
  rcases h with ⟨rfl, rfl⟩ | ⟨t, p, id, rfl, h⟩
  · exact live_nil w
  · exact live_any t p id l w h
section
variable {base : Nat} {w : World} {b : Nat} {o : Value} {bk : Bool} {d nn : Nat} {pv kv : Value} {xs : List Pr} {ks : List Nat}
/-- no block of a node is a token's -/
theorem NdV.noTok (h : NdV base w b o bk d nn pv kv xs ks) : ∀ x ∈ foot b pv kv, ∀ cs, ¬ Blk w x 112 cs := by
  intro x hx cs hb
  simp only [foot, List.mem_cons, List.mem_append, Option.mem_toList] at hx
  unfold Blk at hb
  rcases hx with rfl | e | e
  · have := h.blk; unfold Blk at this; rw [this] at hb; cases hb
  · obtain ⟨cur, hc⟩ := own_cells h.prs x e; rw [hc] at hb; cases hb
  · obtain ⟨cur, hc⟩ := own_cells h.kds x e; rw [hc] at hb; cases hb
end
/-- whether a token that is live, or not, may change a node of that owner -/
def ownB (ow tk : Option Nat) (l : Bool) : Bool := l && decide (ow = tk)
theorem owned_dead (b : Nat) (tk : Option Nat) (w : World) (ht : TV w tk false) :
    Calls Try.prog 31 #[at0 b, pt tk] w fun e w' => e = .returned (.bool false) ∧ w = w' := by
  unfold at0
  go_enter Try.func31, Try.ntmps31
  go_wp2_with fail
  refine (live_tv tk false w ht).mono ?_
  rintro e w' ⟨rfl, rfl⟩
  go_wp2_with fail
  go_ret
  exact ⟨rfl, rfl⟩
theorem owned_nil (tv : Value) (w : World) : Calls Try.prog 31 #[.pointer none, tv] w fun e w' => e = .returned (.bool false) ∧ w = w' := by
  go_enter Try.func31, Try.ntmps31
  go_wp2_with fail
  go_ret
  exact ⟨rfl, rfl⟩
theorem eql_tok_nil (a : Addr) (w : World) : (binOp .eql 64 (.pointer none) (.pointer (some a))).run Try.prog w = .ok (.bool false) w := by
  obtain ⟨j, hj, -⟩ := info86
  have h : ∀ d : Nat, (Op.equalIn (d + 1) 64 (.pointer none) (.pointer (some a))).run Try.prog w = .ok false w := fun d => by
    simp [Op.equalIn, run_underlying Try.underlying64, sizeOf, typeInfo, hj]
  simp only [binOp]
  simp [Op.equal, Op.maxDepth, h 9999]
set_option maxRecDepth 100000 in
theorem owned_live (base b t p id : Nat) (ow : Option Nat) (lo bk : Bool) (d nn : Nat) (pv kv : Value) (xs : List Pr) (ks : List Nat) (w : World) (h : NdV base w b (pt ow) bk d nn pv kv xs ks) (ht : Tok w t p id true) (ho : TV w ow lo) :
    Calls Try.prog 31 #[at0 b, at0 t] w fun e w' => e = .returned (.bool (decide (ow = some t))) ∧ w = w' := by
  obtain ⟨c0, c1, c2, c3, c4, c5⟩ := h.cells
  have hlv := live_any t p id true w ht
  clear h c1 c2 c3 c4 c5
  rcases ho with ⟨rfl, rfl⟩ | ⟨t', p', id', rfl, h'⟩
  · unfold pt at c0
    have hne := eql_tok_nil ⟨t, 0, none⟩ w
    unfold at0 at *
    clear ht
    go_enter Try.func31, Try.ntmps31
    go_wp2_with fail
    refine hlv.mono ?_
    rintro e w' ⟨rfl, rfl⟩
    go_wp2_with fail
    go_ret
    exact ⟨rfl, rfl⟩
  · by_cases e : t' = t
    · subst e
      have hd : decide (some t' = some t') = true := by simp
      rw [hd]
      obtain ⟨j, hj, hs⟩ := info86
      have hsame := run_eql_ptr_same (P := Try.prog) (w := w) ⟨t', 0, none⟩ Try.underlying64 hj
      unfold pt at c0
      unfold at0 at *
      clear ht h' hd
      go_enter Try.func31, Try.ntmps31
      go_wp2_with fail
      refine hlv.mono ?_
      rintro e w' ⟨rfl, rfl⟩
      go_wp2_with fail
      go_ret
      exact ⟨rfl, rfl⟩
    · have hne := eql_tok_other w e h' ht
      have hd : decide (some t' = some t) = false := by simp [e]
      rw [hd]
      unfold pt at c0
      unfold at0 at *
      clear ht h' hd e
      go_enter Try.func31, Try.ntmps31
      go_wp2_with fail
      refine hlv.mono ?_
      rintro e w' ⟨rfl, rfl⟩
      go_wp2_with fail
      go_ret
      exact ⟨rfl, rfl⟩
theorem owned_any (base b : Nat) (ow tk : Option Nat) (lo l bk : Bool) (d nn : Nat) (pv kv : Value) (xs : List Pr) (ks : List Nat) (w : World) (h : NdV base w b (pt ow) bk d nn pv kv xs ks) (ht : TV w tk l) (ho : TV w ow lo) :
    Calls Try.prog 31 #[at0 b, pt tk] w fun e w' => e = .returned (.bool (ownB ow tk l)) ∧ w = w' := by
  cases l with
  | false => exact owned_dead b tk w ht
  | true =>
    rcases ht with ⟨_, h0⟩ | ⟨t, p, id, rfl, ht⟩
    · cases h0
    · exact owned_live base b t p id ow lo bk d nn pv kv xs ks w h ht ho
end Go.Proofs.Ytgldgdpgbfejmaa
