/- A token ends: on both sides. -/
import Derived.Test.YtgldgdpgbfejmaaYf
namespace Go.Proofs.Ytgldgdpgbfejmaa
open Go.RowKit Go.Lib Go.Conc
set_option linter.unusedVariables false
set_option linter.unusedSimpArgs false
theorem live_less (lv : List Bool) (t : Nat) (h : lv[t]? = some true) : ((lv.set t false).filter id).length + 1 = (lv.filter id).length := by
  induction lv generalizing t with
  | nil => simp at h
  | cons b r ih =>
    cases t with
    | zero =>
      simp at h
      subst h
      simp
    | succ t =>
      simp at h
      have := ih t h
      cases b <;> simp_all
theorem set_dead (lv : List Bool) (t : Nat) (h : lv[t]? = some false) : lv.set t false = lv := by
  apply List.ext_getElem?
  intro j
  by_cases e : t = j
  · subst e
    rw [List.getElem?_set_self (List.getElem?_eq_some_iff.1 h).1, h]
  · rw [List.getElem?_set_ne e]
def endX (p c : Nat) (o : Option Nat) : List Nat := [p, c] ++ o.toList
section
variable {base : Nat} {w w' w1 w2 : World} {X wb p c xb : Nat} {bx : Array Value} {lw tw Nv Lv Nv' v' : Value} {ts : List (Option Nat)} {lv : List Bool} {bs : List NB} {ns : List (RN × Value)} {bl : List Nat}
theorem Tks.ne (h : Tks w p c ts lv) {x t : Nat} (ht : t < 5) (hx : x ∈ endX p c (owO ts t)) {cs : Array Value} {ty : TypeId} (e : w.heap[x]? = some (.cells cs ty (0, 0))) : ty = 112 ∨ ty = 110 := by
  unfold endX at hx
  obtain ⟨out, q, hP, -, -⟩ := h.pool
  obtain ⟨hb, s, r, hch⟩ := hP
  simp only [List.mem_append, List.mem_cons, List.not_mem_nil, or_false, Option.mem_toList] at hx
  rcases hx with (rfl | rfl) | hx
  · unfold Blk at hb; rw [hb] at e; cases e; exact .inr rfl
  · rw [hch] at e; cases e
  · by_cases h0 : t = 0
    · subst h0
      unfold owO at hx
      rw [h.zero.1] at hx; cases hx
    · obtain ⟨t', b, e1, e2, hT⟩ := h.tok t (by omega) ht
      unfold owO at hx
      rw [e1] at hx
      cases hx
      unfold Tok Blk at hT; rw [hT] at e; cases e; exact .inl rfl
def EndPost (p c t : Nat) (ts : List (Option Nat)) (lv : List Bool) (w : World) (e : Ending) (w' : World) : Prop :=
  (∃ v, e = .returned (.int .i64 v)) ∧ Tks w' p c ts (lv.set t false) ∧ Keep (endX p c (owO ts t)) w w' ∧ w'.heap.size = w.heap.size
theorem Tks.endT (h : Tks w p c ts lv) (t : Nat) (ht : t < 5) : Calls Try.prog 34 #[at0 p, pt (owO ts t)] w (EndPost p c t ts lv w) := by
  by_cases h0 : t = 0
  · subst h0
    have e : owO ts 0 = none := by unfold owO; rw [h.zero.1]; rfl
    rw [e]
    refine (end_nilTok p w).mono ?_
    rintro e w' ⟨rfl, rfl⟩
    exact ⟨⟨_, rfl⟩, by rw [set_dead lv 0 h.zero.2]; exact h, Keep.refl _ _, rfl⟩
  · obtain ⟨t', b, e1, e2, hT⟩ := h.tok t (by omega) ht
    have e : owO ts t = some t' := by unfold owO; rw [e1]; rfl
    rw [e]
    cases b with
    | false =>
      refine (end_dead p c 4 0 [] t' p t w hT).mono ?_
      rintro e w' ⟨rfl, rfl⟩
      exact ⟨⟨_, rfl⟩, by rw [set_dead lv t e2]; exact h, Keep.refl _ _, rfl⟩
    | true =>
      obtain ⟨out, q, hP, ho, hq⟩ := h.pool
      have hl := live_less lv t e2
      refine (end_ok p c 4 out q t' t w hP hT (by omega) (by omega)).mono ?_
      rintro e w' ⟨rfl, hP', hT', hs, hk⟩
      refine ⟨⟨_, rfl⟩, ⟨h.len, by rw [List.length_set]; exact h.llen, ⟨h.zero.1, by rw [List.getElem?_set_ne h0]; exact h.zero.2⟩, fun i hi0 hi5 => ?_, ⟨out - 1, _, hP', by omega, by rw [List.length_append]; simp; omega⟩⟩, hk.mono fun x hx => .inl (by rw [‹owO ts t = some t'›]; simpa [endX] using hx), hs⟩
      by_cases hit : t = i
      · subst hit
        exact ⟨t', false, e1, by rw [List.getElem?_set_self (by rw [h.llen]; exact ht)], hT'⟩
      · obtain ⟨ti, bi, a1, a2, a3⟩ := h.tok i hi0 hi5
        refine ⟨ti, bi, a1, by rw [List.getElem?_set_ne hit]; exact a2, a3.keep hk fun hm => ?_⟩
        have hp := hP.1
        obtain ⟨-, s, r, hch⟩ := hP
        simp only [List.mem_cons, List.not_mem_nil, or_false] at hm
        rcases hm with rfl | rfl | rfl
        · unfold Tok Blk at a3; unfold Blk at hp; rw [hp] at a3; cases a3
        · unfold Tok Blk at a3; rw [hch] at a3; cases a3
        · unfold Tok Blk at a3 hT; rw [hT] at a3
          simp at a3
          omega
theorem Cr.ended (h : Cr base w p c xb Nv Lv ts lv bs ns) (t : Nat) (ht : t < 5) (hT : Tks w1 p c ts (lv.set t false)) (hk : Keep (endX p c (owO ts t)) w w1) :
    ∃ gl cl, Lv = .slice (some ⟨gl, 0, none⟩) 5 cl ∧ (∃ b : Bool, w1.cell? ⟨gl, t, none⟩ = some (.bool b)) ∧ w1.frozen? ⟨gl, t, none⟩ = false ∧ w1.cell? ⟨xb, 1, none⟩ = some Lv ∧ Cr base (w1.setCell ⟨gl, t, none⟩ (.bool false)) p c xb Nv Lv ts (lv.set t false) bs ns ∧ base ≤ gl ∧ (∃ cs, Blk w1 gl 4 cs) := by
  have hll := h.tks.llen
  have hR : RefA base w1 xb Nv Lv ns lv := h.ref.keepT hk fun x hx cs ty e => by
    rcases h.tks.ne ht hx e with rfl | rfl <;> decide
  obtain ⟨gl, cl, cur, e, hge, hB, hc, hcm, hs, htk⟩ := own_blk hR.live (by omega)
  have hv := hR.live
  rw [hll] at e
  subst e
  obtain ⟨b, hb⟩ : ∃ b, lv[t]? = some b := ⟨_, List.getElem?_eq_getElem (by omega)⟩
  obtain ⟨gl', cl', e', -, hcell⟩ := hR.liveAt t b hb
  rw [hll] at e'
  cases e'
  rw [hll] at hv
  have k2 : Keep [gl] w1 (w1.setCell ⟨gl, t, none⟩ (.bool false)) := ⟨(Below.refl _ _).setCell (Nat.zero_le _) _, fun i hi hx => Below.heap_setCell _ _ _ _ (by simpa using hx)⟩
  have hne : ∀ x ∈ [gl], ∀ cs ty, w1.heap[x]? = some (.cells cs ty (0, 0)) → ty = 4 := fun x hx cs ty e => by
    rw [List.mem_singleton.1 hx] at e
    unfold Blk at hB; rw [hB] at e; cases e; rfl
  refine ⟨gl, cl, rfl, ⟨b, hcell⟩, hB.frozen t, hR.cells.2, ⟨h.ge, h.tge, hT.keep k2 fun x hx => ?_, ⟨?_, hR.ge, ?_, ?_, ?_⟩, h.len, fun j n r e1 e2 => ?_, h.kids, h.ows, h.disj, h.sized⟩, hge, ⟨_, hB⟩⟩
  · rw [List.mem_singleton.1 hx]
    exact ⟨_, 4, hB, by decide, by decide⟩
  · exact hR.blk.keep k2 fun hm => by
      have := hne xb hm _ _ hR.blk
      exact absurd this (by decide)
  · exact own_keep hR.nodes k2 fun x hx e => by
      obtain ⟨cs, hcs⟩ := own_cells hR.nodes x e
      exact absurd (hne x hx _ _ hcs) (by decide)
  · have s1 := (hv.stored t (.bool false)).1
    rw [List.length_set, hll]
    have e1 : boolsV (lv.set t false) = (boolsV lv).set t (.bool false) := by simp [boolsV, List.map_set]
    rw [e1]
    exact s1
  · intro n hn
    exact own_keep (hR.ls n hn) k2 fun x hx e => by
      obtain ⟨cs, hcs⟩ := own_cells (hR.ls n hn) x e
      exact absurd (hne x hx _ _ hcs) (by decide)
  · have h1 : NodeIs base w1 ts (bs.map (·.b)) n r.1 := (h.nodes j n r e1 e2).keep hk fun x hx hm => by
      obtain ⟨cs, ty, e, hty⟩ := (h.nodes j n r e1 e2).types x hx
      rcases h.tks.ne ht hm e with rfl | rfl <;> revert hty <;> decide
    refine h1.keep k2 fun x hx hm => ?_
    obtain ⟨cs, ty, e, hty⟩ := h1.types x hx
    have := hne x hm _ _ e
    subst this
    revert hty; decide
theorem Ctx.ended (h : Ctx base w X wb p xb bx lw tw ts bl bs) (hT : Tks w p c ts lv) (t : Nat) (ht : t < 5) (hk : Keep (endX p c (owO ts t)) w w1) : Ctx base w1 X wb p xb bx lw tw ts bl bs := by
  refine ⟨h.box.keep hk fun hm => ?_, h.li.blk.keep hk fun hm => ?_, h.li.ge, own_keep h.li.l hk fun x hx e => ?_, own_keep h.li.t hk fun x hx e => ?_, h.li.lfoot⟩
  · exact absurd (hT.ne ht hm h.box) (by decide)
  · exact absurd (hT.ne ht hm h.li.blk) (by decide)
  · obtain ⟨cs, hcs⟩ := own_cells h.li.l x e
    exact absurd (hT.ne ht hx hcs) (by decide)
  · obtain ⟨cs, hcs⟩ := own_cells h.li.t x e
    exact absurd (hT.ne ht hx hcs) (by decide)
theorem Li.stored (h : Li base w wb p xb lw tw ts bl bs) {gl t : Nat} {cs : Array Value} (hB : Blk w gl 4 cs) (u : Value) : Li base (w.setCell ⟨gl, t, none⟩ u) wb p xb lw tw ts bl bs := by
  have k2 : Keep [gl] w (w.setCell ⟨gl, t, none⟩ u) := ⟨(Below.refl _ _).setCell (Nat.zero_le _) _, fun i hi hx => Below.heap_setCell _ _ _ _ (by simpa using hx)⟩
  have hne : ∀ x ∈ [gl], ∀ cs ty, w.heap[x]? = some (.cells cs ty (0, 0)) → ty = 4 := fun x hx cs ty e => by
    rw [List.mem_singleton.1 hx] at e
    unfold Blk at hB; rw [hB] at e; cases e; rfl
  refine ⟨h.blk.keep k2 fun hm => absurd (hne wb hm _ _ h.blk) (by decide), h.ge, own_keep h.l k2 fun x hx e => ?_, own_keep h.t k2 fun x hx e => ?_, h.lfoot⟩
  · obtain ⟨cs, hcs⟩ := own_cells h.l x e
    exact absurd (hne x hx _ _ hcs) (by decide)
  · obtain ⟨cs, hcs⟩ := own_cells h.t x e
    exact absurd (hne x hx _ _ hcs) (by decide)
end
end Go.Proofs.Ytgldgdpgbfejmaa
