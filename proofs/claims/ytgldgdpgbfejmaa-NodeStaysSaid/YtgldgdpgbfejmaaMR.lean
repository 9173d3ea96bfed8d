/- Pointers to nodes compared; the example of layer 5 returns true. -/
import Derived.Test.YtgldgdpgbfejmaaNp
import Derived.Test.YtgldgdpgbfejmaaMP
import Derived.Test.YtgldgdpgbfejmaaMT
namespace Go.Proofs.Ytgldgdpgbfejmaa
open Go.RowKit Go.Lib Go.Conc
set_option linter.unusedVariables false
set_option linter.unusedSimpArgs false
theorem info98 : ∃ j, Try.prog.info? 98 = some j ∧ j.size ≠ 0 := by
  have h : (Try.prog.info? 98).map (·.size) = some 6 := by kernel_rfl
  obtain ⟨i, hi, hb⟩ := Option.map_eq_some_iff.1 h
  exact ⟨i, hi, by omega⟩
theorem eql_node_same (b : Nat) (w : World) : (binOp .eql 39 (at0 b) (at0 b)).run Try.prog w = .ok (.bool true) w := by
  obtain ⟨j, hj, hs⟩ := info98
  exact run_eql_ptr_same (P := Try.prog) (w := w) ⟨b, 0, none⟩ Try.underlying39 hj
theorem eql_node_other {a b : Nat} {ca cb : Array Value} {ta tb : TypeId} (w : World) (hne : a ≠ b) (ha : Blk w a ta ca) (hb : Blk w b tb cb) :
    (binOp .eql 39 (at0 a) (at0 b)).run Try.prog w = .ok (.bool false) w := by
  obtain ⟨j, hj, hs⟩ := info98
  exact run_eql_ptr_other w Try.underlying39 hj hs (fun e => hne (congrArg Addr.block e)) ha hb
theorem neq_node_other {a b : Nat} {ca cb : Array Value} {ta tb : TypeId} (w : World) (hne : a ≠ b) (ha : Blk w a ta ca) (hb : Blk w b tb cb) :
    (binOp .neq 39 (at0 a) (at0 b)).run Try.prog w = .ok (.bool true) w := by
  obtain ⟨j, hj, hs⟩ := info98
  unfold at0
  have h : ∀ d : Nat, (Op.equalIn (d + 1) 39 (.pointer (some ⟨a, 0, none⟩)) (.pointer (some ⟨b, 0, none⟩))).run Try.prog w = .ok false w := fun d => by
    simp [Op.equalIn, run_underlying Try.underlying39, sizeOf, typeInfo, hj, hs, run_sameAddr_other w (a := ⟨a, 0, none⟩) (b := ⟨b, 0, none⟩) (fun e => hne (congrArg Addr.block e)) ha hb]
  simp only [binOp]
  simp [Op.equal, Op.maxDepth, h 9999]
theorem neq_node_same (a : Nat) (w : World) : (binOp .neq 39 (at0 a) (at0 a)).run Try.prog w = .ok (.bool false) w := by
  obtain ⟨j, hj, -⟩ := info98
  unfold at0
  have h : ∀ d : Nat, (Op.equalIn (d + 1) 39 (.pointer (some ⟨a, 0, none⟩)) (.pointer (some ⟨a, 0, none⟩))).run Try.prog w = .ok true w := fun d => by
    simp [Op.equalIn, run_underlying Try.underlying39, sizeOf, typeInfo, hj, run_sameAddr_same]
  simp only [binOp]
  simp [Op.equal, Op.maxDepth, h 9999]
theorem Inn.blk {base : Nat} {w : World} {b : Nat} {ow : Option Nat} {S : Slots} {pv kv : Value} (h : Inn base w b ow S pv kv) : ∃ cs, Blk w b 98 cs := by
  obtain ⟨d, nn, h, -, -⟩ := h
  exact ⟨_, h.blk⟩
theorem Inn.data (base b : Nat) (ow : Option Nat) (S : Slots) (pv kv : Value) (w : World) (h : Inn base w b ow S pv kv) (d : Nat) (hd : BitsOf d (fun i => (S.P i).isSome)) : Calls Try.prog 28 #[at0 b] w fun e w' => e = .returned (.int .u32 d) ∧ w = w' := by
  obtain ⟨d', nn, h, h1, h2⟩ := h
  obtain rfl := h1.ext hd
  exact data_any _ _ _ _ _ _ _ _ _ _ w h
theorem Chg.keepNew {b : Nat} {pv kv : Value} {b1 : Nat} {pv1 kv1 : Value} {w w' : World} (h : Chg false b pv kv b1 pv1 kv1 w w') : Below w.heap.size w w' := by
  have := h.keep
  rw [if_neg (by decide)] at this
  exact this.below (Nat.le_refl _) (by simp)
set_option maxRecDepth 100000 in
set_option maxHeartbeats 2000000 in
theorem awake5 (w : World) : Calls Try.prog 12 #[] w fun e w' => e = .returned (.bool true) ∧ Below w.heap.size w w' := by
  go_enter Try.func12, Try.ntmps12
  go_wp2_with fail
  refine (Inn.new w).mono ?_
  rintro e w1 ⟨a, rfl, ha, hA, hB1⟩
  have hs1 := hB1.size
  have hsp := Inn.setPair w.heap.size a 3 none none false false _ _ _ w1 hA (TV.nil _) (TV.nil _) (by omega) hs1 (⟨#[97]⟩, ⟨#[]⟩)
  unfold pt Pr.v at hsp
  unfold at0 at hsp ⊢
  go_wp2_with fail
  refine hsp.mono ?_
  rintro e w2 ⟨b, pv, kv, rfl, hb, hc⟩
  have hB2 := hc.keepNew
  have hne := hc.new rfl
  have hA2 := hA.below hB2
  obtain ⟨ca, hba⟩ := hA2.blk
  obtain ⟨cb, hbb⟩ := hb.blk
  obtain ⟨ca1, hba1⟩ := hA.blk
  have hlt := hba1.lt
  have hcmp := neq_node_other w2 (a := a) (b := b) (by omega) hba hbb
  have hd1 := Inn.data _ b _ _ _ _ w2 hb 8 ⟨by decide, by decide⟩
  have hd2 := Inn.data _ a _ _ _ _ w2 hA2 0 ⟨by decide, by decide⟩
  have hB := hB1.trans (hB2.mono hs1)
  clear hsp hA hA2 hb hc hba hbb hba1 hB1 hB2
  unfold at0 at *
  go_wp2_with fail
  refine hd1.mono ?_
  rintro e w' ⟨rfl, rfl⟩
  go_wp2_with fail
  refine hd2.mono ?_
  rintro e w' ⟨rfl, rfl⟩
  go_wp2_with fail
  go_ret
  exact ⟨rfl, hB⟩
end Go.Proofs.Ytgldgdpgbfejmaa
/- Opening a pair that was handed in; a pair put into a rising list. -/
namespace Go.Proofs.Ytgldgdpgbfejmaa
open Go.RowKit Go.Lib
set_option linter.unusedVariables false
set_option linter.unusedSimpArgs false
theorem put_rises {xs : List Pr} (p : Pr) (h : RisesL xs) : RisesL (putK xs p) :=
  ins_rises p _ (drop_rises xs p.1 h) (fun x hx => ((drop_mem _ _ _).1 hx).2)
set_option maxRecDepth 100000 in
theorem open_pair {H : Type} {enc : TypeId × Value → H} {W : World} {b base : Nat} {spare : Nat → Bool} {held : Bool} {v : Value} {d : DataW H} {p : List MemPlace}
    (hv : Value.okWide Try.prog W .any b 27 v) (h : DataW.Trod enc Try.prog W base spare held 27 v d p) : ∃ k u, v = .agg #[.string k, .string u] ∧ k.size ≤ maxLen := by
  obtain ⟨f0, f1, hu, o0, o1, t0, t1⟩ := fields33
  obtain ⟨cs, rfl, hsz⟩ := Go.WideShapes.okWide_struct hu hv
  have hc : Try.prog.cellsOf 27 = 2 := by kernel_rfl
  have hc9 : Try.prog.cellsOf 9 = 1 := by kernel_rfl
  rw [hc] at hsz
  obtain ⟨x, y, rfl⟩ : ∃ x y, cs = #[x, y] := by
    match cs, hsz with
    | ⟨[x, y]⟩, _ => exact ⟨x, y, rfl⟩
  obtain ⟨fuel, hf⟩ := h
  obtain ⟨y0, y1, n, -, -, g0, g1⟩ := Go.ChangeShapes.trod_struct2 hu hf
  rw [o0, t0, hc9] at g0
  rw [o1, t1, hc9] at g1
  simp [Value.cells] at g0 g1
  obtain ⟨s0, hs0, _, hz⟩ := DataW.trod_string Try.underlying9 g0
  obtain ⟨s1, hs1, _⟩ := DataW.trod_string Try.underlying9 g1
  simp at hs0 hs1
  subst hs0 hs1
  exact ⟨s0, s1, rfl, hz⟩
end Go.Proofs.Ytgldgdpgbfejmaa
/- Lists and numbers that were handed in; how many pairs and children a node has; nodes kept. -/
namespace Go.Proofs.Ytgldgdpgbfejmaa
open Go.RowKit Go.Lib Go.Conc
set_option linter.unusedVariables false
set_option linter.unusedSimpArgs false

theorem ArgP.at {w wr : World} {a : Option Addr} {len cap : Nat} {ps : List Pr} (h : ArgP w a len cap ps) (hB : Below w.heap.size w wr) (j : Nat) (hj : j < len) :
    ∃ (x : Addr) (p : Pr), a = some x ∧ wr.cell? (x.add (j * 2)) = some (.string p.1) ∧ wr.cell? ⟨(x.add (j * 2)).block, (x.add (j * 2)).off + 1, none⟩ = some (.string p.2) := by
  rcases h with ⟨_, h, _⟩ | ⟨x, rfl, hl, hm, hz, hcell⟩
  · omega
  · have hp := pat_get (xs := ps) (p := j) (by omega)
    have hf := flat_get ps j _ hp
    have c0 := hcell _ _ hf.1
    have c1 := hcell _ _ hf.2
    exact ⟨x, _, rfl, (hB.cell (World.block_lt_of_cell? w _ c0)).trans c0, by rw [show (⟨(x.add (j * 2)).block, (x.add (j * 2)).off + 1, none⟩ : Addr) = (x.add (j * 2)).add 1 from rfl, Addr.add_add]; exact (hB.cell (World.block_lt_of_cell? w _ c1)).trans c1⟩
theorem ArgP.len_le {w : World} {a : Option Addr} {len cap : Nat} {ps : List Pr} (h : ArgP w a len cap ps) : len ≤ 9223372036854775807 := by
  rcases h with ⟨_, h, _⟩ | ⟨x, rfl, hl, hm, hz, hcell⟩
  · omega
  · unfold maxLen at hz; omega
/-- how much is told of a node -/
def tot (S : Slots) : Nat := (fm S.P 32).length + (fm S.K 32).length
theorem tot_le (S : Slots) : tot S ≤ 64 := by
  have := fm_len_le S.P 32
  have := fm_len_le S.K 32
  unfold tot; omega
theorem tot_other (S : Slots) (c : Nat) (p q : Pr) (hc : c < 32) : tot ((S.put c (.pr p)).put c (.pr q)) = tot (S.put c (.pr p)) := by
  have eP := (S.put c (.pr p)).P_put c (.pr q)
  have eK := (S.put c (.pr p)).K_put c (.pr q)
  have e1 := S.P_put c (.pr p)
  have e2 := S.K_put c (.pr p)
  unfold tot
  rw [fm_upd _ _ c hc eP.2, fm_split (S.put c (.pr p)).P c hc, eP.1, e1.1]
  rw [fm_upd _ _ c hc eK.2, fm_split (S.put c (.pr p)).K c hc, eK.1, e2.1]
  simp [Sl.p?, Sl.k?]
theorem tot_clear (S : Slots) (c : Nat) (p : Pr) (hc : c < 32) : tot ((S.put c (.pr p)).put c .no) + 1 = tot (S.put c (.pr p)) := by
  have eP := (S.put c (.pr p)).P_put c .no
  have eK := (S.put c (.pr p)).K_put c .no
  have e1 := S.P_put c (.pr p)
  have e2 := S.K_put c (.pr p)
  unfold tot
  rw [fm_upd _ _ c hc eP.2, fm_split (S.put c (.pr p)).P c hc, eP.1, e1.1]
  rw [fm_upd _ _ c hc eK.2, fm_split (S.put c (.pr p)).K c hc, eK.1, e2.1]
  simp [Sl.p?, Sl.k?]
  omega
theorem Inn.tv {base : Nat} {w : World} {t p id : Nat} {l : Bool} {ow : Option Nat} (ht : Tok w t p id l) (ho : ow = none ∨ ow = some t) : ∃ lo, TV w ow lo := by
  rcases ho with rfl | rfl
  · exact ⟨false, TV.nil _⟩
  · exact ⟨l, TV.tok ht⟩

theorem Inn.base {B B' : Nat} {w : World} {b : Nat} {ow : Option Nat} {S : Slots} {pv kv : Value} (h : Inn B w b ow S pv kv) (hb : B' ≤ B) : Inn B' w b ow S pv kv := by
  obtain ⟨d, nn, h, h1, h2⟩ := h
  exact ⟨d, nn, h.base hb, h1, h2⟩
theorem Inn.keepTok {base : Nat} {w w' : World} {b : Nat} {ow : Option Nat} {S : Slots} {pv kv : Value} (h : Inn base w b ow S pv kv) {p c k t i : Nat} {out : Int} {q : List Nat} {l : Bool} (hk : Keep [p, c, t] w w') (hP : Pool w p c k out q) (hT : Tok w t p i l) : Inn base w' b ow S pv kv := by
  obtain ⟨d, nn, h, h1, h2⟩ := h
  refine ⟨d, nn, h.keep hk ?_, h1, h2⟩
  intro x hx hm
  obtain ⟨hbp, s, r, hc⟩ := hP
  have hcl : w.heap[x]? = some (.cells #[.chan (some c), .int .i64 k, .int .i64 out] 110 (0, 0)) ∨ w.heap[x]? = some (.chan k (ids q) false s r false) ∨ w.heap[x]? = some (.cells #[at0 p, .int .i64 i, .bool l] 112 (0, 0)) := by
    simp only [List.mem_cons, List.not_mem_nil, or_false] at hm
    rcases hm with rfl | rfl | rfl
    · exact .inl hbp
    · exact .inr (.inl hc)
    · exact .inr (.inr hT)
  simp only [foot, List.mem_cons, List.mem_append, Option.mem_toList] at hx
  have hob : (∃ cs, w.heap[x]? = some (.cells cs 98 (0, 0))) ∨ (∃ cs, w.heap[x]? = some (.cells cs 27 (0, 0))) ∨ ∃ cs, w.heap[x]? = some (.cells cs 39 (0, 0)) := by
    rcases hx with rfl | e | e
    · exact .inl ⟨_, h.blk⟩
    · exact .inr (.inl (own_cells h.prs x e))
    · exact .inr (.inr (own_cells h.kds x e))
  rcases hob with ⟨cs, e⟩ | ⟨cs, e⟩ | ⟨cs, e⟩ <;> rw [e] at hcl <;> rcases hcl with hcl | hcl | hcl <;> cases hcl
theorem Chg.belowAt {own : Bool} {b : Nat} {pv kv : Value} {b1 : Nat} {pv1 kv1 : Value} {w w' : World} {base : Nat} (h : Chg own b pv kv b1 pv1 kv1 w w') (hg : ∀ x ∈ Ytgldgdpgbfejmaa.foot b pv kv, base ≤ x) (hb : base ≤ w.heap.size) : Below base w w' := by
  refine h.keep.below hb ?_
  split
  · exact hg
  · simp
end Go.Proofs.Ytgldgdpgbfejmaa
