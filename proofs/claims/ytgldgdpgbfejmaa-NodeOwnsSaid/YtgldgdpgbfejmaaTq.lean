/- A queue that one goroutine alone sends to and receives from: the laws of a region that ends in a send with room, and of one that begins with a select of one receive with a default, for every program. -/
import Derived.Calls
import Derived.Orders
import Derived.Tactics
import Derived.Conc.LoneSelect
namespace Go.Proofs.Ytgldgdpgbfejmaa
open Go.RowKit Go.Conc

section
variable {P : Program} {ops : Array Oper} {Q : Exit → Act → World → Prop}
/-- the operations of list l of a region, done from here, come to an end of which Q holds -/
def Arr (P : Program) (ops : Array Oper) (Q : Exit → Act → World → Prop) (l : List Nat) (a : Act) (w : World) : Prop :=
  ∀ (b : Frame) (k : List Item) (cs : List Frame), b.kind = .normal →
    ∃ e a' w', Q e a' w' ∧ Arrives P (lone (b.at a (.inRegion ops l :: k)) cs w) b k cs e a' w'

theorem arr_nil {a : Act} {w : World} (h : Q .normal a w) : Arr P ops Q [] a w :=
  fun _ _ _ _ => ⟨.normal, a, w, h, .one step_region_end⟩

theorem arr_value {i : Nat} {rest : List Nat} {a : Act} {w w' : World} {o : Oper} {v : Value} (ho : ops[i]? = some o)
    (hw : Region.wanted o (yielded ops a.tmps) = true) (hr : (execOp a.eval o).run P w = .ok (.value v) w')
    (h : Arr P ops Q rest (a.put o.dst v) w') : Arr P ops Q (i :: rest) a w := by
  intro b k cs hb
  obtain ⟨e, a', w'', hq, harr⟩ := h b k cs hb
  refine ⟨e, a', w'', hq, .of_steps (.one (step_lone_go ?_)) harr⟩
  have hg := stepG_op (P := P) (b := b) (k := k) (cs := cs) (w := w) (rest := rest) ho hw
  have hfin : (b.at a (.inRegion ops (i :: rest) :: k)).finish v = b.at (a.put o.dst v) (.inRegion ops rest :: k) := by
    rw [Frame.finish_at, ho]; rfl
  rw [hg, ← hfin]; simp [stepG.apply, hr]

theorem arr_send {i : Nat} {rest : List Nat} {a : Act} {w w' : World} {o : Oper} {v z : Value} {c cap s r : Nat} {buf : Array Value} {tm : Bool} (ho : ops[i]? = some o)
    (hw : Region.wanted o (yielded ops a.tmps) = true) (hr : (execOp a.eval o).run P w = .ok (.comm #[scase c v z] true .send) w')
    (hc : w'.heap[c]? = some (.chan cap buf false s r tm)) (hroom : buf.size < cap)
    (h : Arr P ops Q rest (a.put o.dst undef) (w'.setChan c cap (buf.push v) false (s + 1) r tm)) : Arr P ops Q (i :: rest) a w := by
  intro b k cs hb
  obtain ⟨e, a', w'', hq, harr⟩ := h b k cs hb
  refine ⟨e, a', w'', hq, .of_steps (.one ?_) harr⟩
  have h1 := stepG_comm (main := true) (P := P) (b := b) (k := k) (cs := cs) (rest := rest) ho hw (by rw [hb]; decide) hr
  have h2 := step_lone_send_room h1 hc hroom
  rw [Frame.finish_at, ho] at h2
  exact h2

theorem arr_select_got {i : Nat} {rest : List Nat} {a : Act} {w w' : World} {o : Oper} {z : Value} {c cap s r : Nat} {buf : Array Value} {tm cl : Bool} (ho : ops[i]? = some o)
    (hw : Region.wanted o (yielded ops a.tmps) = true) (hr : (execOp a.eval o).run P w = .ok (.comm #[rcase c z] false .select) w')
    (hc : w'.heap[c]? = some (.chan cap buf cl s r tm)) (hsome : 0 < buf.size)
    (h : Arr P ops Q rest (a.put o.dst (.tuple #[goInt 0, .bool true, buf.getD 0 undef])) (w'.setChan c cap (buf.extract 1 buf.size) cl s (r + 1) tm)) : Arr P ops Q (i :: rest) a w := by
  intro b k cs hb
  obtain ⟨e, a', w'', hq, harr⟩ := h b k cs hb
  refine ⟨e, a', w'', hq, .of_steps (.one ?_) harr⟩
  have h1 := stepG_comm (main := true) (P := P) (b := b) (k := k) (cs := cs) (rest := rest) ho hw (by rw [hb]; decide) hr
  have h2 := step_lone_select_recv_buf h1 hc hsome
  rw [Frame.finish_at, ho] at h2
  exact h2

theorem arr_select_none {i : Nat} {rest : List Nat} {a : Act} {w w' : World} {o : Oper} {z : Value} {c cap s r : Nat} {tm : Bool} (ho : ops[i]? = some o)
    (hw : Region.wanted o (yielded ops a.tmps) = true) (hr : (execOp a.eval o).run P w = .ok (.comm #[rcase c z] false .select) w')
    (hc : w'.heap[c]? = some (.chan cap #[] false s r tm))
    (h : Arr P ops Q rest (a.put o.dst (.tuple #[goInt (-1), .bool false, z])) w') : Arr P ops Q (i :: rest) a w := by
  intro b k cs hb
  obtain ⟨e, a', w'', hq, harr⟩ := h b k cs hb
  refine ⟨e, a', w'', hq, .of_steps (.one ?_) harr⟩
  have h1 := stepG_comm (main := true) (P := P) (b := b) (k := k) (cs := cs) (rest := rest) ho hw (by rw [hb]; decide) hr
  have h2 := step_lone_select_default h1 hc
  rw [Frame.finish_at, ho] at h2
  exact h2

/-- the rest of a region, which neither sends nor receives, by the walk for such -/
theorem arr_drop {a : Act} {w : World} (k : Nat) {idx : List Nat} (hi : idx = List.range' k (ops.toList.drop k).length) (h : wpList P ops Q (ops.toList.drop k) a w) : Arr P ops Q idx a w := by
  intro b kk cs _
  subst hi
  refine wp_ops _ a w ?_ b kk cs
  rw [wpOps_eq_wpList (ops.toList.drop k) k (by simp)]
  exact h
/-- what 'Code.wp' says, of frames of ordinary calls alone: such a frame may send and receive -/
def wpN (P : Program) (c : Code) (Q : Exit → Act → World → Prop) (a : Act) (w : World) : Prop :=
  ∀ (b : Frame) (k : List Item) (cs : List Frame), b.kind = .normal →
    ∃ e a' w', Q e a' w' ∧ Arrives P (lone (b.at a (.code c :: k)) cs w) b k cs e a' w'
theorem wpN_of_wp {c : Code} {a : Act} {w : World} (h : c.wp P Q a w) : wpN P c Q a w := fun b k cs _ => h b k cs
/-- an exit that is none of the plain ones leaves an item of the list unlooked at -/
theorem leave {m : Machine} {b : Frame} {x : Item} {k : List Item} {cs : List Frame} {e : Exit} {a : Act} {w : World} (hx : x.plain = true) (he : e ≠ .normal) (h : Arrives P m b (x :: k) cs e a w) : Arrives P m b k cs e a w :=
  h.pass hx fun _ _ => .inl he
theorem then_other {e : Exit} {K : Act → World → Prop} {a : Act} {w : World} (he : e ≠ .normal) (h : Exit.then K Q e a w) : Q e a w := by
  cases e <;> first | exact h | exact absurd rfl he
theorem wpN_seq {x y : Code} {a : Act} {w : World} (h : wpN P x (Exit.then (fun a w => wpN P y Q a w) Q) a w) : wpN P (.seq x y) Q a w := fun b k cs hb => by
  obtain ⟨e, a', w', hQ, hA⟩ := h b (.code y :: k) cs hb
  by_cases he : e = .normal
  · subst he
    obtain ⟨e2, a2, w2, hQ2, hA2⟩ := (show wpN P y Q a' w' from hQ) b k cs hb
    exact ⟨e2, a2, w2, hQ2, (hA2.of_steps hA).of_steps (.one step_seq)⟩
  · exact ⟨e, a', w', then_other he hQ, (leave rfl he hA).of_steps (.one step_seq)⟩
theorem wpN_seq' {x y : Code} {a : Act} {w : World} (h : x.wp P (Exit.then (fun a w => wpN P y Q a w) Q) a w) : wpN P (.seq x y) Q a w :=
  wpN_seq (wpN_of_wp h)
/-- what a block's end makes of an exit -/
theorem leave_block {m : Machine} {b : Frame} {id : Nat} {k : List Item} {cs : List Frame} {e : Exit} {a : Act} {w : World} (h : Arrives P m b (.inBlock id :: k) cs e a w) (hQ : Exit.inBlock id Q e a w) :
    ∃ e', Q e' a w ∧ Arrives P m b k cs e' a w := by
  cases e with
  | exit j =>
    by_cases hj : j = id
    · rw [Exit.inBlock, if_pos hj] at hQ
      exact ⟨.normal, hQ, h k (by simp [exitTo, hj])⟩
    · rw [Exit.inBlock, if_neg hj] at hQ
      refine ⟨.exit j, hQ, fun k' hk' => h k' ?_⟩
      have hne : (id == j) = false := by rw [beq_eq_false_iff_ne]; exact Ne.symm hj
      simp [exitTo, hne, hk']
  | normal => exact ⟨.normal, hQ, Steps.trans h (.one step_inBlock)⟩
  | goto l => exact ⟨.goto l, hQ, fun k' hk' => h k' (by simp [gotoIn, hk'])⟩
  | ret => exact ⟨.ret, hQ, h⟩
  | panic ch => exact ⟨.panic ch, hQ, h⟩
  | outgrown => exact ⟨.outgrown, hQ, h⟩
theorem wpN_block {id : Nat} {c : Code} {a : Act} {w : World} (h : wpN P c (Exit.inBlock id Q) a w) : wpN P (.block id c) Q a w := fun b k cs hb => by
  obtain ⟨e, a', w', hQ, hA⟩ := h b (.inBlock id :: k) cs hb
  obtain ⟨e', hQ', hA'⟩ := leave_block hA hQ
  exact ⟨e', a', w', hQ', hA'.of_steps (.one step_block)⟩
/-- a loop whose rounds may send: by a relation and a number that falls -/
theorem wpN_loop {c : Code} {a : Act} {w : World} (I : Nat → Act → World → Prop) (n : Nat) (h₀ : I n a w)
    (round : ∀ n a w, I n a w → wpN P c (Exit.then (fun a' w' => ∃ m, m < n ∧ I m a' w') Q) a w) : wpN P (.loop c) Q a w := fun b k cs hb => by
  have turn : ∀ N n a w, n < N → I n a w → ∃ e a' w', Q e a' w' ∧ Arrives P (lone (b.at a (.code c :: .inLoop c :: k)) cs w) b k cs e a' w' := by
    intro N
    induction N with
    | zero => intro n a w hn; omega
    | succ N ih =>
      intro n a w hn hI
      obtain ⟨e, a', w', hQ, hA⟩ := round n a w hI b (.inLoop c :: k) cs hb
      by_cases he : e = .normal
      · subst he
        obtain ⟨m, hm, hIm⟩ := (show ∃ m, m < n ∧ I m a' w' from hQ)
        obtain ⟨e2, a2, w2, hQ2, hA2⟩ := ih m a' w' (by omega) hIm
        exact ⟨e2, a2, w2, hQ2, (hA2.of_steps (.one step_inLoop)).of_steps hA⟩
      · exact ⟨e, a', w', then_other he hQ, leave rfl he hA⟩
  obtain ⟨e, a', w', hQ, hA⟩ := turn (n + 1) n a w (Nat.lt_succ_self n) h₀
  exact ⟨e, a', w', hQ, hA.of_steps (.one step_loop)⟩
theorem wpN_region {id : Nat} {a : Act} {w : World} (h : Arr P ops Q (List.range ops.size) a w) : wpN P (.region id ops false) Q a w := by
  intro b k cs hb
  obtain ⟨e, a', w', hq, harr⟩ := h b k cs hb
  exact ⟨e, a', w', hq, .of_steps (.one step_region) harr⟩
/-- from here on, whatever order is drawn, the rest of the region comes to an end of which Q holds -/
def AnyArr (P : Program) (ops : Array Oper) (Q : Exit → Act → World → Prop) (fuel : Nat) (listed : Array Bool) (a : Act) (w : World) : Prop :=
  ∀ t, Arr P ops Q (Region.linearise.go .any ops fuel t listed []) a w
theorem anyArr_zero {listed : Array Bool} {a : Act} {w : World} (h : Q .normal a w) : AnyArr P ops Q 0 listed a w := fun t => by
  simpa [Region.linearise.go] using arr_nil h
theorem anyArr_succ {fuel : Nat} {listed : Array Bool} {a : Act} {w : World} (rs : List Nat) (hr : Region.ready .any ops listed = rs) (hne : rs ≠ [])
    (h : ∀ i ∈ rs, ∀ t, Arr P ops Q (i :: Region.linearise.go .any ops fuel t (listed.setIfInBounds i true) []) a w) : AnyArr P ops Q (fuel + 1) listed a w := by
  intro t
  simp only [Region.linearise.go]
  change Arr P ops Q (match (Region.ready .any ops listed)[t % (Region.ready .any ops listed).length]? with
      | some i => Region.linearise.go .any ops fuel (t / (Region.ready .any ops listed).length) (listed.setIfInBounds i true) [i]
      | none => [].reverse) a w
  rw [hr]
  cases hi : rs[t % rs.length]? with
  | none =>
    exfalso
    have hpos : 0 < rs.length := List.length_pos_iff.2 hne
    have hlt : t % rs.length < rs.length := Nat.mod_lt _ hpos
    rw [List.getElem?_eq_getElem hlt] at hi
    cases hi
  | some i =>
    simp only []
    rw [linearise_go_acc, List.reverse_singleton, List.singleton_append]
    exact h i (List.mem_of_getElem? hi) _
theorem wpN_region_draw {id : Nat} {a : Act} {w : World} (hm : P.follows .mixedOrders = true)
    (h : AnyArr P ops Q ops.size (Array.replicate ops.size false) a { w with drawn := w.drawn + 1 }) : wpN P (.region id ops true) Q a w := by
  intro b k cs hb
  have h1 := h (w.tape w.drawn (.order b.fn id)) b k cs hb
  obtain ⟨e, a', w', hq, harr⟩ := h1
  refine ⟨e, a', w', hq, .of_steps (.one ?_) harr⟩
  rw [step_region_draw]
  simp only [Region.schedule, hm, Bool.true_or, if_true, Region.linearise]
/-- the end of a call whose frame is an ordinary one, out of the walk of its body -/
theorem calls_of_wpN {f : FuncId} {fn : Func} {c : Code} {args : Array Value} {w : World} {R : Ending → World → Prop}
    (hf : P.funcs[f]? = some fn) (hb : fn.body = some c)
    (h : wpN P c (bodyPost P fn R) { tmps := args ++ Array.replicate (fn.ntmps - args.size) undef, defers := [] } w) :
    Calls P f args w R := fun cs => by
  have e0 : Frame.enter P f args .normal = ({ (default : Frame) with fn := f, kind := .normal } : Frame).at { tmps := args ++ Array.replicate (fn.ntmps - args.size) undef, defers := [] } [.code c] := by
    simp [Frame.enter, Frame.at, hf, hb]
  obtain ⟨e, a', w', hQ, hA⟩ := h ({ (default : Frame) with fn := f, kind := .normal } : Frame) [] cs rfl
  rw [← e0] at hA
  match e, hQ, hA with
  | .normal, ⟨hd, v, hv, hR⟩, hA => exact ⟨.returned v, w', _, hR, Steps.trans hA (.one step_end), rfl, rfl, hd, rfl, fn, hf, hv⟩
  | .ret, ⟨hd, v, hv, hR⟩, ⟨todo, hs⟩ => exact ⟨.returned v, w', _, hR, hs, rfl, rfl, hd, rfl, fn, hf, hv⟩
  | .panic ch, ⟨hd, hR⟩, ⟨todo, hs⟩ => exact ⟨.panicked ch, w', _, hR, hs, rfl, rfl, hd, fn, hf⟩
  | .outgrown, hR, hA =>
    refine ⟨.outgrown, w', { (default : Frame) with fn := f }, hR, ?_, rfl, trivial⟩
    rcases hA with h | h
    · cases h
    · exact h
end
end Go.Proofs.Ytgldgdpgbfejmaa
