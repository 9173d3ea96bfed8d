/- Lists and numbers that were handed in; how many pairs and children a node has; nodes kept. -/
import Derived.Test.YtgldgdpgbfejmaaNr
import Derived.Test.YtgldgdpgbfejmaaTg
namespace Go.Proofs.Ytgldgdpgbfejmaa
open Go.RowKit Go.Lib Go.Conc
set_option linter.unusedVariables false
set_option linter.unusedSimpArgs false

theorem ArgP.at {w wr : World} {a : Option Addr} {len cap : Nat} {ps : List Pr} (h : ArgP w a len cap ps) (hB : Below w.heap.size w wr) (j : Nat) (hj : j < len) :
    ∃ (x : Addr) (p : Pr), a = some x ∧ wr.cell? (x.add (j * 2)) = some (.string p.1) ∧ wr.cell? ⟨(x.add (j * 2)).block, (x.add (j * 2)).off + 1, none⟩ = some (.string p.2) := by
  rcases h with ⟨_, h, _⟩ | ⟨x, rfl, hl, hm, hz, hcell⟩
  · omega
  · have hp := pat_get (xs := ps) (p := j) (by omega)
    have hf := flat_get ps j _ hp
    have c0 := hcell _ _ hf.1
    have c1 := hcell _ _ hf.2
    exact ⟨x, _, rfl, (hB.cell (World.block_lt_of_cell? w _ c0)).trans c0, by rw [show (⟨(x.add (j * 2)).block, (x.add (j * 2)).off + 1, none⟩ : Addr) = (x.add (j * 2)).add 1 from rfl, Addr.add_add]; exact (hB.cell (World.block_lt_of_cell? w _ c1)).trans c1⟩
theorem ArgP.len_le {w : World} {a : Option Addr} {len cap : Nat} {ps : List Pr} (h : ArgP w a len cap ps) : len ≤ 9223372036854775807 := by
  rcases h with ⟨_, h, _⟩ | ⟨x, rfl, hl, hm, hz, hcell⟩
  · omega
  · unfold maxLen at hz; omega
/-- how much is told of a node -/
def tot (S : Slots) : Nat := (fm S.P 32).length + (fm S.K 32).length
theorem tot_le (S : Slots) : tot S ≤ 64 := by
  have := fm_len_le S.P 32
  have := fm_len_le S.K 32
  unfold tot; omega
theorem tot_other (S : Slots) (c : Nat) (p q : Pr) (hc : c < 32) : tot ((S.put c (.pr p)).put c (.pr q)) = tot (S.put c (.pr p)) := by
  have eP := (S.put c (.pr p)).P_put c (.pr q)
  have eK := (S.put c (.pr p)).K_put c (.pr q)
  have e1 := S.P_put c (.pr p)
  have e2 := S.K_put c (.pr p)
  unfold tot
  rw [fm_upd _ _ c hc eP.2, fm_split (S.put c (.pr p)).P c hc, eP.1, e1.1]
  rw [fm_upd _ _ c hc eK.2, fm_split (S.put c (.pr p)).K c hc, eK.1, e2.1]
  simp [Sl.p?, Sl.k?]
theorem tot_clear (S : Slots) (c : Nat) (p : Pr) (hc : c < 32) : tot ((S.put c (.pr p)).put c .no) + 1 = tot (S.put c (.pr p)) := by
  have eP := (S.put c (.pr p)).P_put c .no
  have eK := (S.put c (.pr p)).K_put c .no
  have e1 := S.P_put c (.pr p)
  have e2 := S.K_put c (.pr p)
  unfold tot
  rw [fm_upd _ _ c hc eP.2, fm_split (S.put c (.pr p)).P c hc, eP.1, e1.1]
  rw [fm_upd _ _ c hc eK.2, fm_split (S.put c (.pr p)).K c hc, eK.1, e2.1]
  simp [Sl.p?, Sl.k?]
  omega
theorem Inn.tv {base : Nat} {w : World} {t p id : Nat} {l : Bool} {ow : Option Nat} (ht : Tok w t p id l) (ho : ow = none ∨ ow = some t) : ∃ lo, TV w ow lo := by
  rcases ho with rfl | rfl
  · exact ⟨false, TV.nil _⟩
  · exact ⟨l, TV.tok ht⟩

theorem Inn.base {B B' : Nat} {w : World} {b : Nat} {ow : Option Nat} {S : Slots} {pv kv : Value} (h : Inn B w b ow S pv kv) (hb : B' ≤ B) : Inn B' w b ow S pv kv := by
  obtain ⟨d, nn, h, h1, h2⟩ := h
  exact ⟨d, nn, h.base hb, h1, h2⟩
theorem Inn.keepTok {base : Nat} {w w' : World} {b : Nat} {ow : Option Nat} {S : Slots} {pv kv : Value} (h : Inn base w b ow S pv kv) {p c k t i : Nat} {out : Int} {q : List Nat} {l : Bool} (hk : Keep [p, c, t] w w') (hP : Pool w p c k out q) (hT : Tok w t p i l) : Inn base w' b ow S pv kv := by
  obtain ⟨d, nn, h, h1, h2⟩ := h
  refine ⟨d, nn, h.keep hk ?_, h1, h2⟩
  intro x hx hm
  obtain ⟨hbp, s, r, hc⟩ := hP
  have hcl : w.heap[x]? = some (.cells #[.chan (some c), .int .i64 k, .int .i64 out] 110 (0, 0)) ∨ w.heap[x]? = some (.chan k (ids q) false s r false) ∨ w.heap[x]? = some (.cells #[at0 p, .int .i64 i, .bool l] 112 (0, 0)) := by
    simp only [List.mem_cons, List.not_mem_nil, or_false] at hm
    rcases hm with rfl | rfl | rfl
    · exact .inl hbp
    · exact .inr (.inl hc)
    · exact .inr (.inr hT)
  simp only [foot, List.mem_cons, List.mem_append, Option.mem_toList] at hx
  have hob : (∃ cs, w.heap[x]? = some (.cells cs 98 (0, 0))) ∨ (∃ cs, w.heap[x]? = some (.cells cs 27 (0, 0))) ∨ ∃ cs, w.heap[x]? = some (.cells cs 39 (0, 0)) := by
    rcases hx with rfl | e | e
    · exact .inl ⟨_, h.blk⟩
    · exact .inr (.inl (own_cells h.prs x e))
    · exact .inr (.inr (own_cells h.kds x e))
  rcases hob with ⟨cs, e⟩ | ⟨cs, e⟩ | ⟨cs, e⟩ <;> rw [e] at hcl <;> rcases hcl with hcl | hcl | hcl <;> cases hcl
theorem Chg.belowAt {own : Bool} {b : Nat} {pv kv : Value} {b1 : Nat} {pv1 kv1 : Value} {w w' : World} {base : Nat} (h : Chg own b pv kv b1 pv1 kv1 w w') (hg : ∀ x ∈ Ytgldgdpgbfejmaa.foot b pv kv, base ≤ x) (hb : base ≤ w.heap.size) : Below base w w' := by
  refine h.keep.below hb ?_
  split
  · exact hg
  · simp
end Go.Proofs.Ytgldgdpgbfejmaa
