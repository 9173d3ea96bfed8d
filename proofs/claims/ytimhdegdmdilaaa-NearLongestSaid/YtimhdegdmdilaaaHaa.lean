/- A queue that one goroutine alone sends to and receives from: the laws of a region that ends in a send with room, and of one that begins with a select of one receive with a default, for every program. -/
import Derived.Calls
import Derived.Orders
import Derived.Tactics
import Derived.Conc.LoneSelect
import Derived.Test.YtimhdegdmdilaaaProg
import Derived.WalkKit
import Derived.Lib.Hide
import Derived.Below
import Derived.Laws.OwnMore
import Derived.Laws.Rows
import Derived.Deep.Cut
import Derived.Deep.QuietTactic
import Derived.LaidEqlPtr
import Derived.KernelRfl
namespace Go.Proofs.Ytimhdegdmdilaaa
open Go.RowKit Go.Conc

section
variable {P : Program} {ops : Array Oper} {Q : Exit → Act → World → Prop}
/-- the operations of list l of a region, done from here, come to an end of which Q holds -/
def Arr (P : Program) (ops : Array Oper) (Q : Exit → Act → World → Prop) (l : List Nat) (a : Act) (w : World) : Prop :=
  ∀ (b : Frame) (k : List Item) (cs : List Frame), b.kind = .normal →
    ∃ e a' w', Q e a' w' ∧ Arrives P (lone (b.at a (.inRegion ops l :: k)) cs w) b k cs e a' w'

theorem arr_nil {a : Act} {w : World} (h : Q .normal a w) : Arr P ops Q [] a w :=
  fun _ _ _ _ => ⟨.normal, a, w, h, .one step_region_end⟩

theorem arr_value {i : Nat} {rest : List Nat} {a : Act} {w w' : World} {o : Oper} {v : Value} (ho : ops[i]? = some o)
    (hw : Region.wanted o (yielded ops a.tmps) = true) (hr : (execOp a.eval o).run P w = .ok (.value v) w')
    (h : Arr P ops Q rest (a.put o.dst v) w') : Arr P ops Q (i :: rest) a w := by
  intro b k cs hb
  obtain ⟨e, a', w'', hq, harr⟩ := h b k cs hb
  refine ⟨e, a', w'', hq, .of_steps (.one (step_lone_go ?_)) harr⟩
  have hg := stepG_op (P := P) (b := b) (k := k) (cs := cs) (w := w) (rest := rest) ho hw
  have hfin : (b.at a (.inRegion ops (i :: rest) :: k)).finish v = b.at (a.put o.dst v) (.inRegion ops rest :: k) := by
    rw [Frame.finish_at, ho]; rfl
  rw [hg, ← hfin]; simp [stepG.apply, hr]

theorem arr_send {i : Nat} {rest : List Nat} {a : Act} {w w' : World} {o : Oper} {v z : Value} {c cap s r : Nat} {buf : Array Value} {tm : Bool} (ho : ops[i]? = some o)
    (hw : Region.wanted o (yielded ops a.tmps) = true) (hr : (execOp a.eval o).run P w = .ok (.comm #[scase c v z] true .send) w')
    (hc : w'.heap[c]? = some (.chan cap buf false s r tm)) (hroom : buf.size < cap)
    (h : Arr P ops Q rest (a.put o.dst undef) (w'.setChan c cap (buf.push v) false (s + 1) r tm)) : Arr P ops Q (i :: rest) a w := by
  intro b k cs hb
  obtain ⟨e, a', w'', hq, harr⟩ := h b k cs hb
  refine ⟨e, a', w'', hq, .of_steps (.one ?_) harr⟩
  have h1 := stepG_comm (main := true) (P := P) (b := b) (k := k) (cs := cs) (rest := rest) ho hw (by rw [hb]; decide) hr
  have h2 := step_lone_send_room h1 hc hroom
  rw [Frame.finish_at, ho] at h2
  exact h2

theorem arr_select_got {i : Nat} {rest : List Nat} {a : Act} {w w' : World} {o : Oper} {z : Value} {c cap s r : Nat} {buf : Array Value} {tm cl : Bool} (ho : ops[i]? = some o)
    (hw : Region.wanted o (yielded ops a.tmps) = true) (hr : (execOp a.eval o).run P w = .ok (.comm #[rcase c z] false .select) w')
    (hc : w'.heap[c]? = some (.chan cap buf cl s r tm)) (hsome : 0 < buf.size)
    (h : Arr P ops Q rest (a.put o.dst (.tuple #[goInt 0, .bool true, buf.getD 0 undef])) (w'.setChan c cap (buf.extract 1 buf.size) cl s (r + 1) tm)) : Arr P ops Q (i :: rest) a w := by
  intro b k cs hb
  obtain ⟨e, a', w'', hq, harr⟩ := h b k cs hb
  refine ⟨e, a', w'', hq, .of_steps (.one ?_) harr⟩
  have h1 := stepG_comm (main := true) (P := P) (b := b) (k := k) (cs := cs) (rest := rest) ho hw (by rw [hb]; decide) hr
  have h2 := step_lone_select_recv_buf h1 hc hsome
  rw [Frame.finish_at, ho] at h2
  exact h2

theorem arr_select_none {i : Nat} {rest : List Nat} {a : Act} {w w' : World} {o : Oper} {z : Value} {c cap s r : Nat} {tm : Bool} (ho : ops[i]? = some o)
    (hw : Region.wanted o (yielded ops a.tmps) = true) (hr : (execOp a.eval o).run P w = .ok (.comm #[rcase c z] false .select) w')
    (hc : w'.heap[c]? = some (.chan cap #[] false s r tm))
    (h : Arr P ops Q rest (a.put o.dst (.tuple #[goInt (-1), .bool false, z])) w') : Arr P ops Q (i :: rest) a w := by
  intro b k cs hb
  obtain ⟨e, a', w'', hq, harr⟩ := h b k cs hb
  refine ⟨e, a', w'', hq, .of_steps (.one ?_) harr⟩
  have h1 := stepG_comm (main := true) (P := P) (b := b) (k := k) (cs := cs) (rest := rest) ho hw (by rw [hb]; decide) hr
  have h2 := step_lone_select_default h1 hc
  rw [Frame.finish_at, ho] at h2
  exact h2

/-- the rest of a region, which neither sends nor receives, by the walk for such -/
theorem arr_drop {a : Act} {w : World} (k : Nat) {idx : List Nat} (hi : idx = List.range' k (ops.toList.drop k).length) (h : wpList P ops Q (ops.toList.drop k) a w) : Arr P ops Q idx a w := by
  intro b kk cs _
  subst hi
  refine wp_ops _ a w ?_ b kk cs
  rw [wpOps_eq_wpList (ops.toList.drop k) k (by simp)]
  exact h
/-- what 'Code.wp' says, of frames of ordinary calls alone: such a frame may send and receive -/
def wpN (P : Program) (c : Code) (Q : Exit → Act → World → Prop) (a : Act) (w : World) : Prop :=
  ∀ (b : Frame) (k : List Item) (cs : List Frame), b.kind = .normal →
    ∃ e a' w', Q e a' w' ∧ Arrives P (lone (b.at a (.code c :: k)) cs w) b k cs e a' w'
theorem wpN_of_wp {c : Code} {a : Act} {w : World} (h : c.wp P Q a w) : wpN P c Q a w := fun b k cs _ => h b k cs
/-- an exit that is none of the plain ones leaves an item of the list unlooked at -/
theorem leave {m : Machine} {b : Frame} {x : Item} {k : List Item} {cs : List Frame} {e : Exit} {a : Act} {w : World} (hx : x.plain = true) (he : e ≠ .normal) (h : Arrives P m b (x :: k) cs e a w) : Arrives P m b k cs e a w :=
  h.pass hx fun _ _ => .inl he
theorem then_other {e : Exit} {K : Act → World → Prop} {a : Act} {w : World} (he : e ≠ .normal) (h : Exit.then K Q e a w) : Q e a w := by
  cases e <;> first | exact h | exact absurd rfl he
theorem wpN_seq {x y : Code} {a : Act} {w : World} (h : wpN P x (Exit.then (fun a w => wpN P y Q a w) Q) a w) : wpN P (.seq x y) Q a w := fun b k cs hb => by
  obtain ⟨e, a', w', hQ, hA⟩ := h b (.code y :: k) cs hb
  by_cases he : e = .normal
  · subst he
    obtain ⟨e2, a2, w2, hQ2, hA2⟩ := (show wpN P y Q a' w' from hQ) b k cs hb
    exact ⟨e2, a2, w2, hQ2, (hA2.of_steps hA).of_steps (.one step_seq)⟩
  · exact ⟨e, a', w', then_other he hQ, (leave rfl he hA).of_steps (.one step_seq)⟩
theorem wpN_seq' {x y : Code} {a : Act} {w : World} (h : x.wp P (Exit.then (fun a w => wpN P y Q a w) Q) a w) : wpN P (.seq x y) Q a w :=
  wpN_seq (wpN_of_wp h)
/-- what a block's end makes of an exit -/
theorem leave_block {m : Machine} {b : Frame} {id : Nat} {k : List Item} {cs : List Frame} {e : Exit} {a : Act} {w : World} (h : Arrives P m b (.inBlock id :: k) cs e a w) (hQ : Exit.inBlock id Q e a w) :
    ∃ e', Q e' a w ∧ Arrives P m b k cs e' a w := by
  cases e with
  | exit j =>
    by_cases hj : j = id
    · rw [Exit.inBlock, if_pos hj] at hQ
      exact ⟨.normal, hQ, h k (by simp [exitTo, hj])⟩
    · rw [Exit.inBlock, if_neg hj] at hQ
      refine ⟨.exit j, hQ, fun k' hk' => h k' ?_⟩
      have hne : (id == j) = false := by rw [beq_eq_false_iff_ne]; exact Ne.symm hj
      simp [exitTo, hne, hk']
  | normal => exact ⟨.normal, hQ, Steps.trans h (.one step_inBlock)⟩
  | goto l => exact ⟨.goto l, hQ, fun k' hk' => h k' (by simp [gotoIn, hk'])⟩
  | ret => exact ⟨.ret, hQ, h⟩
  | panic ch => exact ⟨.panic ch, hQ, h⟩
  | outgrown => exact ⟨.outgrown, hQ, h⟩
theorem wpN_block {id : Nat} {c : Code} {a : Act} {w : World} (h : wpN P c (Exit.inBlock id Q) a w) : wpN P (.block id c) Q a w := fun b k cs hb => by
  obtain ⟨e, a', w', hQ, hA⟩ := h b (.inBlock id :: k) cs hb
  obtain ⟨e', hQ', hA'⟩ := leave_block hA hQ
  exact ⟨e', a', w', hQ', hA'.of_steps (.one step_block)⟩
/-- a loop whose rounds may send: by a relation and a number that falls -/
theorem wpN_loop {c : Code} {a : Act} {w : World} (I : Nat → Act → World → Prop) (n : Nat) (h₀ : I n a w)
    (round : ∀ n a w, I n a w → wpN P c (Exit.then (fun a' w' => ∃ m, m < n ∧ I m a' w') Q) a w) : wpN P (.loop c) Q a w := fun b k cs hb => by
  have turn : ∀ N n a w, n < N → I n a w → ∃ e a' w', Q e a' w' ∧ Arrives P (lone (b.at a (.code c :: .inLoop c :: k)) cs w) b k cs e a' w' := by
    intro N
    induction N with
    | zero => intro n a w hn; omega
    | succ N ih =>
      intro n a w hn hI
      obtain ⟨e, a', w', hQ, hA⟩ := round n a w hI b (.inLoop c :: k) cs hb
      by_cases he : e = .normal
      · subst he
        obtain ⟨m, hm, hIm⟩ := (show ∃ m, m < n ∧ I m a' w' from hQ)
        obtain ⟨e2, a2, w2, hQ2, hA2⟩ := ih m a' w' (by omega) hIm
        exact ⟨e2, a2, w2, hQ2, (hA2.of_steps (.one step_inLoop)).of_steps hA⟩
      · exact ⟨e, a', w', then_other he hQ, leave rfl he hA⟩
  obtain ⟨e, a', w', hQ, hA⟩ := turn (n + 1) n a w (Nat.lt_succ_self n) h₀
  exact ⟨e, a', w', hQ, hA.of_steps (.one step_loop)⟩
theorem wpN_region {id : Nat} {a : Act} {w : World} (h : Arr P ops Q (List.range ops.size) a w) : wpN P (.region id ops false) Q a w := by
  intro b k cs hb
  obtain ⟨e, a', w', hq, harr⟩ := h b k cs hb
  exact ⟨e, a', w', hq, .of_steps (.one step_region) harr⟩
/-- from here on, whatever order is drawn, the rest of the region comes to an end of which Q holds -/
def AnyArr (P : Program) (ops : Array Oper) (Q : Exit → Act → World → Prop) (fuel : Nat) (listed : Array Bool) (a : Act) (w : World) : Prop :=
  ∀ t, Arr P ops Q (Region.linearise.go .any ops fuel t listed []) a w
theorem anyArr_zero {listed : Array Bool} {a : Act} {w : World} (h : Q .normal a w) : AnyArr P ops Q 0 listed a w := fun t => by
  simpa [Region.linearise.go] using arr_nil h
theorem anyArr_succ {fuel : Nat} {listed : Array Bool} {a : Act} {w : World} (rs : List Nat) (hr : Region.ready .any ops listed = rs) (hne : rs ≠ [])
    (h : ∀ i ∈ rs, ∀ t, Arr P ops Q (i :: Region.linearise.go .any ops fuel t (listed.setIfInBounds i true) []) a w) : AnyArr P ops Q (fuel + 1) listed a w := by
  intro t
  simp only [Region.linearise.go]
  change Arr P ops Q (match (Region.ready .any ops listed)[t % (Region.ready .any ops listed).length]? with
      | some i => Region.linearise.go .any ops fuel (t / (Region.ready .any ops listed).length) (listed.setIfInBounds i true) [i]
      | none => [].reverse) a w
  rw [hr]
  cases hi : rs[t % rs.length]? with
  | none =>
    exfalso
    have hpos : 0 < rs.length := List.length_pos_iff.2 hne
    have hlt : t % rs.length < rs.length := Nat.mod_lt _ hpos
    rw [List.getElem?_eq_getElem hlt] at hi
    cases hi
  | some i =>
    simp only []
    rw [linearise_go_acc, List.reverse_singleton, List.singleton_append]
    exact h i (List.mem_of_getElem? hi) _
theorem wpN_region_draw {id : Nat} {a : Act} {w : World} (hm : P.follows .mixedOrders = true)
    (h : AnyArr P ops Q ops.size (Array.replicate ops.size false) a { w with drawn := w.drawn + 1 }) : wpN P (.region id ops true) Q a w := by
  intro b k cs hb
  have h1 := h (w.tape w.drawn (.order b.fn id)) b k cs hb
  obtain ⟨e, a', w', hq, harr⟩ := h1
  refine ⟨e, a', w', hq, .of_steps (.one ?_) harr⟩
  rw [step_region_draw]
  simp only [Region.schedule, hm, Bool.true_or, if_true, Region.linearise]
/-- the end of a call whose frame is an ordinary one, out of the walk of its body -/
theorem calls_of_wpN {f : FuncId} {fn : Func} {c : Code} {args : Array Value} {w : World} {R : Ending → World → Prop}
    (hf : P.funcs[f]? = some fn) (hb : fn.body = some c)
    (h : wpN P c (bodyPost P fn R) { tmps := args ++ Array.replicate (fn.ntmps - args.size) undef, defers := [] } w) :
    Calls P f args w R := fun cs => by
  have e0 : Frame.enter P f args .normal = ({ (default : Frame) with fn := f, kind := .normal } : Frame).at { tmps := args ++ Array.replicate (fn.ntmps - args.size) undef, defers := [] } [.code c] := by
    simp [Frame.enter, Frame.at, hf, hb]
  obtain ⟨e, a', w', hQ, hA⟩ := h ({ (default : Frame) with fn := f, kind := .normal } : Frame) [] cs rfl
  rw [← e0] at hA
  match e, hQ, hA with
  | .normal, ⟨hd, v, hv, hR⟩, hA => exact ⟨.returned v, w', _, hR, Steps.trans hA (.one step_end), rfl, rfl, hd, rfl, fn, hf, hv⟩
  | .ret, ⟨hd, v, hv, hR⟩, ⟨todo, hs⟩ => exact ⟨.returned v, w', _, hR, hs, rfl, rfl, hd, rfl, fn, hf, hv⟩
  | .panic ch, ⟨hd, hR⟩, ⟨todo, hs⟩ => exact ⟨.panicked ch, w', _, hR, hs, rfl, rfl, hd, fn, hf⟩
  | .outgrown, hR, hA =>
    refine ⟨.outgrown, w', { (default : Frame) with fn := f }, hR, ?_, rfl, trivial⟩
    rcases hA with h | h
    · cases h
    · exact h
end
end Go.Proofs.Ytimhdegdmdilaaa
/- What the methods of tokens and pools that only read return, and blocks of memory known whole. -/
namespace Go.Proofs.Ytimhdegdmdilaaa
open Go.RowKit Go.Conc
set_option linter.unusedVariables false
set_option maxRecDepth 100000
set_option maxRecDepth 100000
set_option linter.unusedSimpArgs false
set_option linter.unnecessarySimpa false

/-- block g is just these cells, none of them frozen -/
def Blk (w : World) (g : Nat) (t : TypeId) (cs : Array Value) : Prop := w.heap[g]? = some (.cells cs t (0, 0))
theorem Blk.lt {w : World} {g : Nat} {t : TypeId} {cs : Array Value} (h : Blk w g t cs) : g < w.heap.size := by
  rcases Nat.lt_or_ge g w.heap.size with hlt | hge
  · exact hlt
  · unfold Blk at h; rw [Array.getElem?_eq_none hge] at h; cases h
theorem Blk.cell {w : World} {g : Nat} {t : TypeId} {cs : Array Value} (h : Blk w g t cs) (i : Nat) : w.cell? ⟨g, i, none⟩ = cs[i]? := cell_of_row w g i cs t (0, 0) h
theorem Blk.frozen {w : World} {g : Nat} {t : TypeId} {cs : Array Value} (h : Blk w g t cs) (i : Nat) : w.frozen? ⟨g, i, none⟩ = false := by
  unfold Blk at h
  simp [World.frozen?, h]
theorem Blk.new (w : World) (t : TypeId) (cs : Array Value) : Blk (w.alloc (.cells cs t)) w.heap.size t cs := heap_alloc_new w _
theorem Blk.alloc {w : World} {g : Nat} {t : TypeId} {cs : Array Value} (h : Blk w g t cs) (o : Obj) : Blk (w.alloc o) g t cs := (Below.heap_alloc w o g h.lt).trans h
theorem Blk.set_ {w : World} {g : Nat} {t : TypeId} {cs : Array Value} (h : Blk w g t cs) (i : Nat) (u : Value) : Blk (w.setCell ⟨g, i, none⟩ u) g t (cs.setIfInBounds i u) := by
  unfold Blk at h ⊢
  simp [World.setCell, Array.getElem?_modify, h]
theorem Blk.far {w : World} {g : Nat} {t : TypeId} {cs : Array Value} (h : Blk w g t cs) {p : Addr} (hp : g ≠ p.block) (u : Value) : Blk (w.setCell p u) g t cs := (Below.heap_setCell w p u g hp).trans h

/-- where a thing lies -/
def at0 (b : Nat) : Value := .pointer (some ⟨b, 0, none⟩)
/-- a token's block -/
def Tok (w : World) (t p : Nat) (id : Nat) (live : Bool) : Prop := Blk w t 160 #[at0 p, .int .i64 id, .bool live]
def ids (q : List Nat) : Array Value := (q.map fun n : Nat => Value.int .i64 n).toArray
/-- a pool's block, and its queue's -/
def Pool (w : World) (p c k : Nat) (out : Int) (q : List Nat) : Prop :=
  Blk w p 179 #[.chan (some c), .int .i64 k, .int .i64 out] ∧ ∃ s r, w.heap[c]? = some (.chan k (ids q) false s r false)

theorem tok3 {w : World} {g : Nat} {t : TypeId} {a b c : Value} (h : Blk w g t #[a, b, c]) :
    (w.cell? ⟨g, 0, none⟩ = some a ∧ w.cell? ⟨g, 1, none⟩ = some b ∧ w.cell? ⟨g, 2, none⟩ = some c) ∧
    (w.frozen? ⟨g, 0, none⟩ = false ∧ w.frozen? ⟨g, 1, none⟩ = false ∧ w.frozen? ⟨g, 2, none⟩ = false) :=
  ⟨⟨h.cell 0, h.cell 1, h.cell 2⟩, h.frozen 0, h.frozen 1, h.frozen 2⟩

set_option maxHeartbeats 1000000 in
theorem live_any (t p id : Nat) (l : Bool) (w : World) (h : Tok w t p id l) : Calls Try.prog 104 #[at0 t] w fun e w' => e = .returned (.bool l) ∧ w = w' := by
  obtain ⟨⟨h0, h1, h2⟩, -⟩ := tok3 h
  clear h
  unfold at0
  go_enter Try.func104, Try.ntmps104
  go_wp2
  go_ret
  exact ⟨rfl, rfl⟩
theorem live_nil (w : World) : Calls Try.prog 104 #[.pointer none] w fun e w' => e = .returned (.bool false) ∧ w = w' := by
  go_enter Try.func104, Try.ntmps104
  go_wp2
  go_ret
  exact ⟨rfl, rfl⟩
end Go.Proofs.Ytimhdegdmdilaaa
/- What Take does, for every pool; what a call leaves alone. -/
namespace Go.Proofs.Ytimhdegdmdilaaa
open Go.RowKit Go.Conc
set_option linter.unusedVariables false
set_option maxRecDepth 100000
set_option maxRecDepth 100000
set_option linter.unusedSimpArgs false
set_option linter.unnecessarySimpa false
theorem setChan_far (w : World) (c c' cap : Nat) (buf : Array Value) (cl : Bool) (s r : Nat) (tm : Bool) (h : c' ≠ c) : (w.setChan c cap buf cl s r tm).heap[c']? = w.heap[c']? := by
  simp only [World.setChan]; rw [Array.getElem?_setIfInBounds_ne (Ne.symm h)]
theorem Blk.chan {w : World} {g : Nat} {t : TypeId} {cs : Array Value} (h : Blk w g t cs) {c : Nat} (hc : g ≠ c) (cap : Nat) (buf : Array Value) (cl : Bool) (s r : Nat) (tm : Bool) : Blk (w.setChan c cap buf cl s r tm) g t cs := (setChan_far w c g cap buf cl s r tm hc).trans h

/-- what a call leaves alone: all that lay there but the blocks of X -/
structure Keep (X : List Nat) (w w' : World) : Prop where
  all : Below 0 w w'
  block : ∀ b, b < w.heap.size → b ∉ X → w'.heap[b]? = w.heap[b]?
theorem Keep.refl (X : List Nat) (w : World) : Keep X w w := ⟨Below.refl _ _, fun _ _ _ => rfl⟩
theorem Keep.trans {X : List Nat} {a b c : World} (h : Keep X a b) (k : Keep X b c) : Keep X a c :=
  ⟨h.all.trans k.all, fun i hi hx => (k.block i (Nat.lt_of_lt_of_le hi h.all.size) hx).trans (h.block i hi hx)⟩
theorem Keep.mono {X Y : List Nat} {a b : World} (h : Keep X a b) (hs : ∀ x ∈ X, x ∈ Y ∨ a.heap.size ≤ x) : Keep Y a b :=
  ⟨h.all, fun i hi hx => h.block i hi fun hm => by
    rcases hs i hm with h1 | h1
    · exact hx h1
    · omega⟩
theorem Keep.below {X : List Nat} {a b : World} (h : Keep X a b) {B : Nat} (hB : B ≤ a.heap.size) (hs : ∀ x ∈ X, B ≤ x) : Below B a b :=
  ⟨h.all.os, h.all.tape, h.all.output, h.all.size, fun i hi => h.block i (by omega) fun hm => by have := hs i hm; omega⟩
theorem Keep.of_below {X : List Nat} {a b : World} (h : Below a.heap.size a b) : Keep X a b := ⟨h.mono (Nat.zero_le _), fun i hi _ => h.block i hi⟩
theorem Keep.alloc {X : List Nat} {a w : World} (h : Keep X a w) (o : Obj) : Keep X a (w.alloc o) :=
  h.trans (.of_below ((Below.refl _ _).alloc (Nat.le_refl _) o))
theorem Keep.setCell {X : List Nat} {a w : World} (h : Keep X a w) {p : Addr} (hp : p.block ∈ X) (u : Value) : Keep X a (w.setCell p u) :=
  h.trans ⟨(Below.refl _ _).setCell (Nat.zero_le _) u, fun i hi hx => Below.heap_setCell w p u i (fun e => hx (e ▸ hp))⟩
theorem Keep.setChan {X : List Nat} {a w : World} (h : Keep X a w) {c : Nat} (hp : c ∈ X) (cap : Nat) (buf : Array Value) (cl : Bool) (s r : Nat) (tm : Bool) : Keep X a (w.setChan c cap buf cl s r tm) :=
  h.trans ⟨below_setChan (Below.refl _ _) (Nat.zero_le _) cap buf cl s r tm, fun i hi hx => setChan_far w c i cap buf cl s r tm (fun e => hx (e ▸ hp))⟩
theorem Keep.drewN {X : List Nat} {a w : World} (h : Keep X a w) (n : Nat) : Keep X a (w.drewN n) := ⟨⟨h.all.os, h.all.tape, h.all.output, h.all.size, fun i hi => by omega⟩, h.block⟩
theorem Blk.keep {w w' : World} {X : List Nat} {g : Nat} {t : TypeId} {cs : Array Value} (h : Blk w g t cs) (hk : Keep X w w') (hg : g ∉ X) : Blk w' g t cs := (hk.block g h.lt hg).trans h
theorem Tok.keep {w w' : World} {X : List Nat} {t p id : Nat} {l : Bool} (h : Tok w t p id l) (hk : Keep X w w') (hg : t ∉ X) : Tok w' t p id l := Blk.keep h hk hg
theorem Tok.lt {w : World} {t p id : Nat} {l : Bool} (h : Tok w t p id l) : t < w.heap.size := Blk.lt h
theorem Pool.lt {w : World} {p c k : Nat} {out : Int} {q : List Nat} (h : Pool w p c k out q) : p < w.heap.size ∧ c < w.heap.size ∧ p ≠ c := by
  obtain ⟨hb, s, r, hc⟩ := h
  refine ⟨hb.lt, ?_, ?_⟩
  · rcases Nat.lt_or_ge c w.heap.size with hlt | hge
    · exact hlt
    · rw [Array.getElem?_eq_none hge] at hc; cases hc
  · rintro rfl
    unfold Blk at hb; rw [hb] at hc; cases hc
theorem Pool.keep {w w' : World} {X : List Nat} {p c k : Nat} {out : Int} {q : List Nat} (h : Pool w p c k out q) (hk : Keep X w w') (hp : p ∉ X) (hc : c ∉ X) : Pool w' p c k out q := by
  have hl := h.lt
  obtain ⟨hb, s, r, hch⟩ := h
  exact ⟨hb.keep hk hp, s, r, (hk.block c hl.2.1 hc).trans hch⟩
theorem Tok.ne {w : World} {t p id : Nat} {l : Bool} (h : Tok w t p id l) {p' c k : Nat} {out : Int} {q : List Nat} (hP : Pool w p' c k out q) : t ≠ p' ∧ t ≠ c := by
  obtain ⟨hb, s, r, hc⟩ := hP
  constructor
  · rintro rfl
    unfold Tok Blk at h; unfold Blk at hb; rw [hb] at h; cases h
  · rintro rfl
    unfold Tok Blk at h; rw [h] at hc; cases hc

theorem ids_getD (i : Nat) (q : List Nat) : (ids (i :: q)).getD 0 undef = .int .i64 i := by simp [ids]
theorem ids_tail (i : Nat) (q : List Nat) : (ids (i :: q)).extract 1 (ids (i :: q)).size = ids q := by
  apply Array.ext'
  simp [ids, List.take_of_length_le]
theorem ids_push (i : Nat) (q : List Nat) : (ids q).push (.int .i64 i) = ids (q ++ [i]) := by
  apply Array.ext'
  simp [ids, List.take_of_length_le]
theorem ids_size (q : List Nat) : (ids q).size = q.length := by simp [ids]

end Go.Proofs.Ytimhdegdmdilaaa
/- What End does, for every pool and token. -/
namespace Go.Proofs.Ytimhdegdmdilaaa
open Go.RowKit Go.Conc
set_option linter.unusedVariables false
set_option maxRecDepth 100000
set_option maxRecDepth 100000
set_option linter.unusedSimpArgs false
set_option linter.unnecessarySimpa false
theorem info84 : ∃ j, Try.prog.info? 179 = some j ∧ j.size ≠ 0 := by
  have h : (Try.prog.info? 179).map (·.size) = some 3 := by kernel_rfl
  obtain ⟨i, hi, hb⟩ := Option.map_eq_some_iff.1 h
  exact ⟨i, hi, by omega⟩
theorem info86 : ∃ j, Try.prog.info? 160 = some j ∧ j.size ≠ 0 := by
  have h : (Try.prog.info? 160).map (·.size) = some 3 := by kernel_rfl
  obtain ⟨i, hi, hb⟩ := Option.map_eq_some_iff.1 h
  exact ⟨i, hi, by omega⟩
theorem neq_pool_same (a : Addr) (w : World) : (binOp .neq 158 (.pointer (some a)) (.pointer (some a))).run Try.prog w = .ok (.bool false) w := by
  obtain ⟨j, hj, -⟩ := info84
  have h : ∀ d : Nat, (Op.equalIn (d + 1) 158 (.pointer (some a)) (.pointer (some a))).run Try.prog w = .ok true w := fun d => by
    simp [Op.equalIn, run_underlying Try.underlying158, sizeOf, typeInfo, hj, run_sameAddr_same]
  simp only [binOp]
  simp [Op.equal, Op.maxDepth, h 9999]
theorem neq_pool_other {a b : Nat} {ca cb : Array Value} {ta tb : TypeId} (w : World) (hne : a ≠ b) (ha : Blk w a ta ca) (hb : Blk w b tb cb) :
    (binOp .neq 158 (.pointer (some ⟨a, 0, none⟩)) (.pointer (some ⟨b, 0, none⟩))).run Try.prog w = .ok (.bool true) w := by
  obtain ⟨j, hj, hs⟩ := info84
  have h : ∀ d : Nat, (Op.equalIn (d + 1) 158 (.pointer (some ⟨a, 0, none⟩)) (.pointer (some ⟨b, 0, none⟩))).run Try.prog w = .ok false w := fun d => by
    simp [Op.equalIn, run_underlying Try.underlying158, sizeOf, typeInfo, hj, hs, run_sameAddr_other w (a := ⟨a, 0, none⟩) (b := ⟨b, 0, none⟩) (fun e => hne (congrArg Addr.block e)) ha hb]
  simp only [binOp]
  simp [Op.equal, Op.maxDepth, h 9999]
theorem eql_tok_other {a b : Nat} {ca cb : Array Value} {ta tb : TypeId} (w : World) (hne : a ≠ b) (ha : Blk w a ta ca) (hb : Blk w b tb cb) :
    (binOp .eql 124 (.pointer (some ⟨a, 0, none⟩)) (.pointer (some ⟨b, 0, none⟩))).run Try.prog w = .ok (.bool false) w := by
  obtain ⟨j, hj, hs⟩ := info86
  exact run_eql_ptr_other w Try.underlying124 hj hs (fun e => hne (congrArg Addr.block e)) ha hb

/-- the region of End that sends: its two sides may be done in any order -/
def eo0 : Oper := { dst := some 30, op := .move (.tmp 0), type := 158, pos := "token.go:57", after := #[], guard := none }
def eo1 : Oper := { dst := some 31, op := .nilCheck (.tmp 30), type := 0, pos := "token.go:57", after := #[{ on := 0, ground := .data }], guard := none }
def eo2 : Oper := { dst := some 32, op := .fieldAddr 179 (.tmp 31) 0, type := 0, pos := "token.go:57", after := #[{ on := 1, ground := .data }], guard := none }
def eo3 : Oper := { dst := some 33, op := .load 177 (.tmp 32), type := 177, pos := "token.go:57", after := #[{ on := 2, ground := .data }], guard := none }
def eo4 : Oper := { dst := some 34, op := .move (.tmp 1), type := 124, pos := "token.go:57", after := #[], guard := none }
def eo5 : Oper := { dst := some 35, op := .nilCheck (.tmp 34), type := 0, pos := "token.go:57", after := #[{ on := 4, ground := .data }], guard := none }
def eo6 : Oper := { dst := some 36, op := .fieldAddr 160 (.tmp 35) 1, type := 0, pos := "token.go:57", after := #[{ on := 5, ground := .data }], guard := none }
def eo7 : Oper := { dst := some 37, op := .load 3 (.tmp 36), type := 3, pos := "token.go:57", after := #[{ on := 6, ground := .data }], guard := none }
def eo8 : Oper := { dst := none, op := .send (.tmp 33) (.tmp 37), type := 0, pos := "token.go:57", after := #[{ on := 3, ground := .data }, { on := 7, ground := .data }], guard := none }
def e5ops : Array Oper := #[eo0, eo1, eo2, eo3, eo4, eo5, eo6, eo7, eo8]
theorem er0 {a : Act} {w : World} {v : Value} (h : a.eval (.tmp 0) = v) : (execOp a.eval eo0).run Try.prog w = .ok (.value v) w := by simp [eo0, execOp, h]
theorem er1 {a : Act} {w : World} {p : Addr} (h : a.eval (.tmp 30) = .pointer (some p)) : (execOp a.eval eo1).run Try.prog w = .ok (.value (.pointer (some p))) w := by generalize a.eval = ρ at h ⊢; simp [go_sem, eo1, execOp, h]
theorem er2 {a : Act} {w : World} {p : Nat} (h : a.eval (.tmp 31) = .pointer (some ⟨p, 0, none⟩)) : (execOp a.eval eo2).run Try.prog w = .ok (.value (.pointer (some ⟨p, 0, none⟩))) w := by generalize a.eval = ρ at h ⊢; simp [go_sem, eo2, execOp, h]
theorem er3 {a : Act} {w : World} {p c : Nat} (h : a.eval (.tmp 32) = .pointer (some ⟨p, 0, none⟩)) (hc : w.cell? ⟨p, 0, none⟩ = some (.chan (some c))) : (execOp a.eval eo3).run Try.prog w = .ok (.value (.chan (some c))) w := by generalize a.eval = ρ at h ⊢; simp [go_sem, eo3, execOp, h, hc]
theorem er4 {a : Act} {w : World} {v : Value} (h : a.eval (.tmp 1) = v) : (execOp a.eval eo4).run Try.prog w = .ok (.value v) w := by simp [eo4, execOp, h]
theorem er5 {a : Act} {w : World} {p : Addr} (h : a.eval (.tmp 34) = .pointer (some p)) : (execOp a.eval eo5).run Try.prog w = .ok (.value (.pointer (some p))) w := by generalize a.eval = ρ at h ⊢; simp [go_sem, eo5, execOp, h]
theorem er6 {a : Act} {w : World} {p : Nat} (h : a.eval (.tmp 35) = .pointer (some ⟨p, 0, none⟩)) : (execOp a.eval eo6).run Try.prog w = .ok (.value (.pointer (some ⟨p, 1, none⟩))) w := by generalize a.eval = ρ at h ⊢; simp [go_sem, eo6, execOp, h]
theorem er7 {a : Act} {w : World} {p : Nat} {i : Int} (h : a.eval (.tmp 36) = .pointer (some ⟨p, 1, none⟩)) (hc : w.cell? ⟨p, 1, none⟩ = some (.int .i64 i)) : (execOp a.eval eo7).run Try.prog w = .ok (.value (.int .i64 i)) w := by generalize a.eval = ρ at h ⊢; simp [go_sem, eo7, execOp, h, hc]
theorem er8 {a : Act} {w : World} {c : Nat} {v : Value} (h : a.eval (.tmp 33) = .chan (some c)) (h' : a.eval (.tmp 37) = v) : (execOp a.eval eo8).run Try.prog w = .ok (.comm #[scase c v (.tuple #[])] true .send) w := by generalize a.eval = ρ at h h' ⊢; simp [go_sem, eo8, execOp, scase, h, h']

set_option maxRecDepth 100000 in
set_option maxHeartbeats 4000000 in
theorem e5_any {Q : Exit → Act → World → Prop} (p c k t i s r : Nat) (q : List Nat) (w : World) (x2 x3 x4 x5 x6 x7 x8 x9 x10 x11 x12 x13 x14 x15 x16 x17 x18 x19 x20 x21 x22 x23 x24 x25 x26 x27 x28 x29 : Value)
    (h0 : w.cell? ⟨p, 0, none⟩ = some (.chan (some c))) (g1 : w.cell? ⟨t, 1, none⟩ = some (.int .i64 i)) (hc : w.heap[c]? = some (.chan k (ids q) false s r false)) (hq : q.length < k)
    (H : Q .normal ⟨#[.pointer (some ⟨p, 0, none⟩), .pointer (some ⟨t, 0, none⟩), x2, x3, x4, x5, x6, x7, x8, x9, x10, x11, x12, x13, x14, x15, x16, x17, x18, x19, x20, x21, x22, x23, x24, x25, x26, x27, x28, x29, .pointer (some ⟨p, 0, none⟩), .pointer (some ⟨p, 0, none⟩), .pointer (some ⟨p, 0, none⟩), .chan (some c), .pointer (some ⟨t, 0, none⟩), .pointer (some ⟨t, 0, none⟩), .pointer (some ⟨t, 1, none⟩), .int .i64 i], []⟩ (w.setChan c k (ids (q ++ [i])) false (s + 1) r false)) :
    AnyArr Try.prog e5ops Q 9 #[false, false, false, false, false, false, false, false, false] ⟨#[.pointer (some ⟨p, 0, none⟩), .pointer (some ⟨t, 0, none⟩), x2, x3, x4, x5, x6, x7, x8, x9, x10, x11, x12, x13, x14, x15, x16, x17, x18, x19, x20, x21, x22, x23, x24, x25, x26, x27, x28, x29, undef, undef, undef, undef, undef, undef, undef, undef], []⟩ w := by
  have n44 : AnyArr Try.prog e5ops Q 1 #[true, true, true, true, true, true, true, true, false] ⟨#[.pointer (some ⟨p, 0, none⟩), .pointer (some ⟨t, 0, none⟩), x2, x3, x4, x5, x6, x7, x8, x9, x10, x11, x12, x13, x14, x15, x16, x17, x18, x19, x20, x21, x22, x23, x24, x25, x26, x27, x28, x29, .pointer (some ⟨p, 0, none⟩), .pointer (some ⟨p, 0, none⟩), .pointer (some ⟨p, 0, none⟩), .chan (some c), .pointer (some ⟨t, 0, none⟩), .pointer (some ⟨t, 0, none⟩), .pointer (some ⟨t, 1, none⟩), .int .i64 i], []⟩ w := by
    refine anyArr_succ [8] (by kernel_rfl) (by simp) fun j hj t' => ?_
    obtain rfl : j = 8 := by simpa using hj
    refine arr_send (o := eo8) (c := c) (v := .int .i64 i) (z := .tuple #[]) (w' := w) rfl rfl (er8 rfl rfl) hc (by rw [ids_size]; exact hq) ?_
    rw [ids_push]
    exact anyArr_zero H t'
  have n34 : AnyArr Try.prog e5ops Q 2 #[true, true, true, false, true, true, true, true, false] ⟨#[.pointer (some ⟨p, 0, none⟩), .pointer (some ⟨t, 0, none⟩), x2, x3, x4, x5, x6, x7, x8, x9, x10, x11, x12, x13, x14, x15, x16, x17, x18, x19, x20, x21, x22, x23, x24, x25, x26, x27, x28, x29, .pointer (some ⟨p, 0, none⟩), .pointer (some ⟨p, 0, none⟩), .pointer (some ⟨p, 0, none⟩), undef, .pointer (some ⟨t, 0, none⟩), .pointer (some ⟨t, 0, none⟩), .pointer (some ⟨t, 1, none⟩), .int .i64 i], []⟩ w := by
    refine anyArr_succ [3] (by kernel_rfl) (by simp) fun j hj t' => ?_
    obtain rfl : j = 3 := by simpa using hj
    refine arr_value (o := eo3) (v := .chan (some c)) (w' := w) rfl rfl (er3 rfl h0) ?_
    exact n44 t'
  have n43 : AnyArr Try.prog e5ops Q 2 #[true, true, true, true, true, true, true, false, false] ⟨#[.pointer (some ⟨p, 0, none⟩), .pointer (some ⟨t, 0, none⟩), x2, x3, x4, x5, x6, x7, x8, x9, x10, x11, x12, x13, x14, x15, x16, x17, x18, x19, x20, x21, x22, x23, x24, x25, x26, x27, x28, x29, .pointer (some ⟨p, 0, none⟩), .pointer (some ⟨p, 0, none⟩), .pointer (some ⟨p, 0, none⟩), .chan (some c), .pointer (some ⟨t, 0, none⟩), .pointer (some ⟨t, 0, none⟩), .pointer (some ⟨t, 1, none⟩), undef], []⟩ w := by
    refine anyArr_succ [7] (by kernel_rfl) (by simp) fun j hj t' => ?_
    obtain rfl : j = 7 := by simpa using hj
    refine arr_value (o := eo7) (v := .int .i64 i) (w' := w) rfl rfl (er7 rfl g1) ?_
    exact n44 t'
  have n24 : AnyArr Try.prog e5ops Q 3 #[true, true, false, false, true, true, true, true, false] ⟨#[.pointer (some ⟨p, 0, none⟩), .pointer (some ⟨t, 0, none⟩), x2, x3, x4, x5, x6, x7, x8, x9, x10, x11, x12, x13, x14, x15, x16, x17, x18, x19, x20, x21, x22, x23, x24, x25, x26, x27, x28, x29, .pointer (some ⟨p, 0, none⟩), .pointer (some ⟨p, 0, none⟩), undef, undef, .pointer (some ⟨t, 0, none⟩), .pointer (some ⟨t, 0, none⟩), .pointer (some ⟨t, 1, none⟩), .int .i64 i], []⟩ w := by
    refine anyArr_succ [2] (by kernel_rfl) (by simp) fun j hj t' => ?_
    obtain rfl : j = 2 := by simpa using hj
    refine arr_value (o := eo2) (v := .pointer (some ⟨p, 0, none⟩)) (w' := w) rfl rfl (er2 rfl) ?_
    exact n34 t'
  have n33 : AnyArr Try.prog e5ops Q 3 #[true, true, true, false, true, true, true, false, false] ⟨#[.pointer (some ⟨p, 0, none⟩), .pointer (some ⟨t, 0, none⟩), x2, x3, x4, x5, x6, x7, x8, x9, x10, x11, x12, x13, x14, x15, x16, x17, x18, x19, x20, x21, x22, x23, x24, x25, x26, x27, x28, x29, .pointer (some ⟨p, 0, none⟩), .pointer (some ⟨p, 0, none⟩), .pointer (some ⟨p, 0, none⟩), undef, .pointer (some ⟨t, 0, none⟩), .pointer (some ⟨t, 0, none⟩), .pointer (some ⟨t, 1, none⟩), undef], []⟩ w := by
    refine anyArr_succ [3, 7] (by kernel_rfl) (by simp) fun j hj t' => ?_
    rcases (show j = 3 ∨ j = 7 by simpa using hj) with rfl | rfl
    · refine arr_value (o := eo3) (v := .chan (some c)) (w' := w) rfl rfl (er3 rfl h0) ?_
      exact n43 t'
    · refine arr_value (o := eo7) (v := .int .i64 i) (w' := w) rfl rfl (er7 rfl g1) ?_
      exact n34 t'
  have n42 : AnyArr Try.prog e5ops Q 3 #[true, true, true, true, true, true, false, false, false] ⟨#[.pointer (some ⟨p, 0, none⟩), .pointer (some ⟨t, 0, none⟩), x2, x3, x4, x5, x6, x7, x8, x9, x10, x11, x12, x13, x14, x15, x16, x17, x18, x19, x20, x21, x22, x23, x24, x25, x26, x27, x28, x29, .pointer (some ⟨p, 0, none⟩), .pointer (some ⟨p, 0, none⟩), .pointer (some ⟨p, 0, none⟩), .chan (some c), .pointer (some ⟨t, 0, none⟩), .pointer (some ⟨t, 0, none⟩), undef, undef], []⟩ w := by
    refine anyArr_succ [6] (by kernel_rfl) (by simp) fun j hj t' => ?_
    obtain rfl : j = 6 := by simpa using hj
    refine arr_value (o := eo6) (v := .pointer (some ⟨t, 1, none⟩)) (w' := w) rfl rfl (er6 rfl) ?_
    exact n43 t'
  have n14 : AnyArr Try.prog e5ops Q 4 #[true, false, false, false, true, true, true, true, false] ⟨#[.pointer (some ⟨p, 0, none⟩), .pointer (some ⟨t, 0, none⟩), x2, x3, x4, x5, x6, x7, x8, x9, x10, x11, x12, x13, x14, x15, x16, x17, x18, x19, x20, x21, x22, x23, x24, x25, x26, x27, x28, x29, .pointer (some ⟨p, 0, none⟩), undef, undef, undef, .pointer (some ⟨t, 0, none⟩), .pointer (some ⟨t, 0, none⟩), .pointer (some ⟨t, 1, none⟩), .int .i64 i], []⟩ w := by
    refine anyArr_succ [1] (by kernel_rfl) (by simp) fun j hj t' => ?_
    obtain rfl : j = 1 := by simpa using hj
    refine arr_value (o := eo1) (v := .pointer (some ⟨p, 0, none⟩)) (w' := w) rfl rfl (er1 rfl) ?_
    exact n24 t'
  have n23 : AnyArr Try.prog e5ops Q 4 #[true, true, false, false, true, true, true, false, false] ⟨#[.pointer (some ⟨p, 0, none⟩), .pointer (some ⟨t, 0, none⟩), x2, x3, x4, x5, x6, x7, x8, x9, x10, x11, x12, x13, x14, x15, x16, x17, x18, x19, x20, x21, x22, x23, x24, x25, x26, x27, x28, x29, .pointer (some ⟨p, 0, none⟩), .pointer (some ⟨p, 0, none⟩), undef, undef, .pointer (some ⟨t, 0, none⟩), .pointer (some ⟨t, 0, none⟩), .pointer (some ⟨t, 1, none⟩), undef], []⟩ w := by
    refine anyArr_succ [2, 7] (by kernel_rfl) (by simp) fun j hj t' => ?_
    rcases (show j = 2 ∨ j = 7 by simpa using hj) with rfl | rfl
    · refine arr_value (o := eo2) (v := .pointer (some ⟨p, 0, none⟩)) (w' := w) rfl rfl (er2 rfl) ?_
      exact n33 t'
    · refine arr_value (o := eo7) (v := .int .i64 i) (w' := w) rfl rfl (er7 rfl g1) ?_
      exact n24 t'
  have n32 : AnyArr Try.prog e5ops Q 4 #[true, true, true, false, true, true, false, false, false] ⟨#[.pointer (some ⟨p, 0, none⟩), .pointer (some ⟨t, 0, none⟩), x2, x3, x4, x5, x6, x7, x8, x9, x10, x11, x12, x13, x14, x15, x16, x17, x18, x19, x20, x21, x22, x23, x24, x25, x26, x27, x28, x29, .pointer (some ⟨p, 0, none⟩), .pointer (some ⟨p, 0, none⟩), .pointer (some ⟨p, 0, none⟩), undef, .pointer (some ⟨t, 0, none⟩), .pointer (some ⟨t, 0, none⟩), undef, undef], []⟩ w := by
    refine anyArr_succ [3, 6] (by kernel_rfl) (by simp) fun j hj t' => ?_
    rcases (show j = 3 ∨ j = 6 by simpa using hj) with rfl | rfl
    · refine arr_value (o := eo3) (v := .chan (some c)) (w' := w) rfl rfl (er3 rfl h0) ?_
      exact n42 t'
    · refine arr_value (o := eo6) (v := .pointer (some ⟨t, 1, none⟩)) (w' := w) rfl rfl (er6 rfl) ?_
      exact n33 t'
  have n41 : AnyArr Try.prog e5ops Q 4 #[true, true, true, true, true, false, false, false, false] ⟨#[.pointer (some ⟨p, 0, none⟩), .pointer (some ⟨t, 0, none⟩), x2, x3, x4, x5, x6, x7, x8, x9, x10, x11, x12, x13, x14, x15, x16, x17, x18, x19, x20, x21, x22, x23, x24, x25, x26, x27, x28, x29, .pointer (some ⟨p, 0, none⟩), .pointer (some ⟨p, 0, none⟩), .pointer (some ⟨p, 0, none⟩), .chan (some c), .pointer (some ⟨t, 0, none⟩), undef, undef, undef], []⟩ w := by
    refine anyArr_succ [5] (by kernel_rfl) (by simp) fun j hj t' => ?_
    obtain rfl : j = 5 := by simpa using hj
    refine arr_value (o := eo5) (v := .pointer (some ⟨t, 0, none⟩)) (w' := w) rfl rfl (er5 rfl) ?_
    exact n42 t'
  have n04 : AnyArr Try.prog e5ops Q 5 #[false, false, false, false, true, true, true, true, false] ⟨#[.pointer (some ⟨p, 0, none⟩), .pointer (some ⟨t, 0, none⟩), x2, x3, x4, x5, x6, x7, x8, x9, x10, x11, x12, x13, x14, x15, x16, x17, x18, x19, x20, x21, x22, x23, x24, x25, x26, x27, x28, x29, undef, undef, undef, undef, .pointer (some ⟨t, 0, none⟩), .pointer (some ⟨t, 0, none⟩), .pointer (some ⟨t, 1, none⟩), .int .i64 i], []⟩ w := by
    refine anyArr_succ [0] (by kernel_rfl) (by simp) fun j hj t' => ?_
    obtain rfl : j = 0 := by simpa using hj
    refine arr_value (o := eo0) (v := .pointer (some ⟨p, 0, none⟩)) (w' := w) rfl rfl (er0 rfl) ?_
    exact n14 t'
  have n13 : AnyArr Try.prog e5ops Q 5 #[true, false, false, false, true, true, true, false, false] ⟨#[.pointer (some ⟨p, 0, none⟩), .pointer (some ⟨t, 0, none⟩), x2, x3, x4, x5, x6, x7, x8, x9, x10, x11, x12, x13, x14, x15, x16, x17, x18, x19, x20, x21, x22, x23, x24, x25, x26, x27, x28, x29, .pointer (some ⟨p, 0, none⟩), undef, undef, undef, .pointer (some ⟨t, 0, none⟩), .pointer (some ⟨t, 0, none⟩), .pointer (some ⟨t, 1, none⟩), undef], []⟩ w := by
    refine anyArr_succ [1, 7] (by kernel_rfl) (by simp) fun j hj t' => ?_
    rcases (show j = 1 ∨ j = 7 by simpa using hj) with rfl | rfl
    · refine arr_value (o := eo1) (v := .pointer (some ⟨p, 0, none⟩)) (w' := w) rfl rfl (er1 rfl) ?_
      exact n23 t'
    · refine arr_value (o := eo7) (v := .int .i64 i) (w' := w) rfl rfl (er7 rfl g1) ?_
      exact n14 t'
  have n22 : AnyArr Try.prog e5ops Q 5 #[true, true, false, false, true, true, false, false, false] ⟨#[.pointer (some ⟨p, 0, none⟩), .pointer (some ⟨t, 0, none⟩), x2, x3, x4, x5, x6, x7, x8, x9, x10, x11, x12, x13, x14, x15, x16, x17, x18, x19, x20, x21, x22, x23, x24, x25, x26, x27, x28, x29, .pointer (some ⟨p, 0, none⟩), .pointer (some ⟨p, 0, none⟩), undef, undef, .pointer (some ⟨t, 0, none⟩), .pointer (some ⟨t, 0, none⟩), undef, undef], []⟩ w := by
    refine anyArr_succ [2, 6] (by kernel_rfl) (by simp) fun j hj t' => ?_
    rcases (show j = 2 ∨ j = 6 by simpa using hj) with rfl | rfl
    · refine arr_value (o := eo2) (v := .pointer (some ⟨p, 0, none⟩)) (w' := w) rfl rfl (er2 rfl) ?_
      exact n32 t'
    · refine arr_value (o := eo6) (v := .pointer (some ⟨t, 1, none⟩)) (w' := w) rfl rfl (er6 rfl) ?_
      exact n23 t'
  have n31 : AnyArr Try.prog e5ops Q 5 #[true, true, true, false, true, false, false, false, false] ⟨#[.pointer (some ⟨p, 0, none⟩), .pointer (some ⟨t, 0, none⟩), x2, x3, x4, x5, x6, x7, x8, x9, x10, x11, x12, x13, x14, x15, x16, x17, x18, x19, x20, x21, x22, x23, x24, x25, x26, x27, x28, x29, .pointer (some ⟨p, 0, none⟩), .pointer (some ⟨p, 0, none⟩), .pointer (some ⟨p, 0, none⟩), undef, .pointer (some ⟨t, 0, none⟩), undef, undef, undef], []⟩ w := by
    refine anyArr_succ [3, 5] (by kernel_rfl) (by simp) fun j hj t' => ?_
    rcases (show j = 3 ∨ j = 5 by simpa using hj) with rfl | rfl
    · refine arr_value (o := eo3) (v := .chan (some c)) (w' := w) rfl rfl (er3 rfl h0) ?_
      exact n41 t'
    · refine arr_value (o := eo5) (v := .pointer (some ⟨t, 0, none⟩)) (w' := w) rfl rfl (er5 rfl) ?_
      exact n32 t'
  have n40 : AnyArr Try.prog e5ops Q 5 #[true, true, true, true, false, false, false, false, false] ⟨#[.pointer (some ⟨p, 0, none⟩), .pointer (some ⟨t, 0, none⟩), x2, x3, x4, x5, x6, x7, x8, x9, x10, x11, x12, x13, x14, x15, x16, x17, x18, x19, x20, x21, x22, x23, x24, x25, x26, x27, x28, x29, .pointer (some ⟨p, 0, none⟩), .pointer (some ⟨p, 0, none⟩), .pointer (some ⟨p, 0, none⟩), .chan (some c), undef, undef, undef, undef], []⟩ w := by
    refine anyArr_succ [4] (by kernel_rfl) (by simp) fun j hj t' => ?_
    obtain rfl : j = 4 := by simpa using hj
    refine arr_value (o := eo4) (v := .pointer (some ⟨t, 0, none⟩)) (w' := w) rfl rfl (er4 rfl) ?_
    exact n41 t'
  have n03 : AnyArr Try.prog e5ops Q 6 #[false, false, false, false, true, true, true, false, false] ⟨#[.pointer (some ⟨p, 0, none⟩), .pointer (some ⟨t, 0, none⟩), x2, x3, x4, x5, x6, x7, x8, x9, x10, x11, x12, x13, x14, x15, x16, x17, x18, x19, x20, x21, x22, x23, x24, x25, x26, x27, x28, x29, undef, undef, undef, undef, .pointer (some ⟨t, 0, none⟩), .pointer (some ⟨t, 0, none⟩), .pointer (some ⟨t, 1, none⟩), undef], []⟩ w := by
    refine anyArr_succ [0, 7] (by kernel_rfl) (by simp) fun j hj t' => ?_
    rcases (show j = 0 ∨ j = 7 by simpa using hj) with rfl | rfl
    · refine arr_value (o := eo0) (v := .pointer (some ⟨p, 0, none⟩)) (w' := w) rfl rfl (er0 rfl) ?_
      exact n13 t'
    · refine arr_value (o := eo7) (v := .int .i64 i) (w' := w) rfl rfl (er7 rfl g1) ?_
      exact n04 t'
  have n12 : AnyArr Try.prog e5ops Q 6 #[true, false, false, false, true, true, false, false, false] ⟨#[.pointer (some ⟨p, 0, none⟩), .pointer (some ⟨t, 0, none⟩), x2, x3, x4, x5, x6, x7, x8, x9, x10, x11, x12, x13, x14, x15, x16, x17, x18, x19, x20, x21, x22, x23, x24, x25, x26, x27, x28, x29, .pointer (some ⟨p, 0, none⟩), undef, undef, undef, .pointer (some ⟨t, 0, none⟩), .pointer (some ⟨t, 0, none⟩), undef, undef], []⟩ w := by
    refine anyArr_succ [1, 6] (by kernel_rfl) (by simp) fun j hj t' => ?_
    rcases (show j = 1 ∨ j = 6 by simpa using hj) with rfl | rfl
    · refine arr_value (o := eo1) (v := .pointer (some ⟨p, 0, none⟩)) (w' := w) rfl rfl (er1 rfl) ?_
      exact n22 t'
    · refine arr_value (o := eo6) (v := .pointer (some ⟨t, 1, none⟩)) (w' := w) rfl rfl (er6 rfl) ?_
      exact n13 t'
  have n21 : AnyArr Try.prog e5ops Q 6 #[true, true, false, false, true, false, false, false, false] ⟨#[.pointer (some ⟨p, 0, none⟩), .pointer (some ⟨t, 0, none⟩), x2, x3, x4, x5, x6, x7, x8, x9, x10, x11, x12, x13, x14, x15, x16, x17, x18, x19, x20, x21, x22, x23, x24, x25, x26, x27, x28, x29, .pointer (some ⟨p, 0, none⟩), .pointer (some ⟨p, 0, none⟩), undef, undef, .pointer (some ⟨t, 0, none⟩), undef, undef, undef], []⟩ w := by
    refine anyArr_succ [2, 5] (by kernel_rfl) (by simp) fun j hj t' => ?_
    rcases (show j = 2 ∨ j = 5 by simpa using hj) with rfl | rfl
    · refine arr_value (o := eo2) (v := .pointer (some ⟨p, 0, none⟩)) (w' := w) rfl rfl (er2 rfl) ?_
      exact n31 t'
    · refine arr_value (o := eo5) (v := .pointer (some ⟨t, 0, none⟩)) (w' := w) rfl rfl (er5 rfl) ?_
      exact n22 t'
  have n30 : AnyArr Try.prog e5ops Q 6 #[true, true, true, false, false, false, false, false, false] ⟨#[.pointer (some ⟨p, 0, none⟩), .pointer (some ⟨t, 0, none⟩), x2, x3, x4, x5, x6, x7, x8, x9, x10, x11, x12, x13, x14, x15, x16, x17, x18, x19, x20, x21, x22, x23, x24, x25, x26, x27, x28, x29, .pointer (some ⟨p, 0, none⟩), .pointer (some ⟨p, 0, none⟩), .pointer (some ⟨p, 0, none⟩), undef, undef, undef, undef, undef], []⟩ w := by
    refine anyArr_succ [3, 4] (by kernel_rfl) (by simp) fun j hj t' => ?_
    rcases (show j = 3 ∨ j = 4 by simpa using hj) with rfl | rfl
    · refine arr_value (o := eo3) (v := .chan (some c)) (w' := w) rfl rfl (er3 rfl h0) ?_
      exact n40 t'
    · refine arr_value (o := eo4) (v := .pointer (some ⟨t, 0, none⟩)) (w' := w) rfl rfl (er4 rfl) ?_
      exact n31 t'
  have n02 : AnyArr Try.prog e5ops Q 7 #[false, false, false, false, true, true, false, false, false] ⟨#[.pointer (some ⟨p, 0, none⟩), .pointer (some ⟨t, 0, none⟩), x2, x3, x4, x5, x6, x7, x8, x9, x10, x11, x12, x13, x14, x15, x16, x17, x18, x19, x20, x21, x22, x23, x24, x25, x26, x27, x28, x29, undef, undef, undef, undef, .pointer (some ⟨t, 0, none⟩), .pointer (some ⟨t, 0, none⟩), undef, undef], []⟩ w := by
    refine anyArr_succ [0, 6] (by kernel_rfl) (by simp) fun j hj t' => ?_
    rcases (show j = 0 ∨ j = 6 by simpa using hj) with rfl | rfl
    · refine arr_value (o := eo0) (v := .pointer (some ⟨p, 0, none⟩)) (w' := w) rfl rfl (er0 rfl) ?_
      exact n12 t'
    · refine arr_value (o := eo6) (v := .pointer (some ⟨t, 1, none⟩)) (w' := w) rfl rfl (er6 rfl) ?_
      exact n03 t'
  have n11 : AnyArr Try.prog e5ops Q 7 #[true, false, false, false, true, false, false, false, false] ⟨#[.pointer (some ⟨p, 0, none⟩), .pointer (some ⟨t, 0, none⟩), x2, x3, x4, x5, x6, x7, x8, x9, x10, x11, x12, x13, x14, x15, x16, x17, x18, x19, x20, x21, x22, x23, x24, x25, x26, x27, x28, x29, .pointer (some ⟨p, 0, none⟩), undef, undef, undef, .pointer (some ⟨t, 0, none⟩), undef, undef, undef], []⟩ w := by
    refine anyArr_succ [1, 5] (by kernel_rfl) (by simp) fun j hj t' => ?_
    rcases (show j = 1 ∨ j = 5 by simpa using hj) with rfl | rfl
    · refine arr_value (o := eo1) (v := .pointer (some ⟨p, 0, none⟩)) (w' := w) rfl rfl (er1 rfl) ?_
      exact n21 t'
    · refine arr_value (o := eo5) (v := .pointer (some ⟨t, 0, none⟩)) (w' := w) rfl rfl (er5 rfl) ?_
      exact n12 t'
  have n20 : AnyArr Try.prog e5ops Q 7 #[true, true, false, false, false, false, false, false, false] ⟨#[.pointer (some ⟨p, 0, none⟩), .pointer (some ⟨t, 0, none⟩), x2, x3, x4, x5, x6, x7, x8, x9, x10, x11, x12, x13, x14, x15, x16, x17, x18, x19, x20, x21, x22, x23, x24, x25, x26, x27, x28, x29, .pointer (some ⟨p, 0, none⟩), .pointer (some ⟨p, 0, none⟩), undef, undef, undef, undef, undef, undef], []⟩ w := by
    refine anyArr_succ [2, 4] (by kernel_rfl) (by simp) fun j hj t' => ?_
    rcases (show j = 2 ∨ j = 4 by simpa using hj) with rfl | rfl
    · refine arr_value (o := eo2) (v := .pointer (some ⟨p, 0, none⟩)) (w' := w) rfl rfl (er2 rfl) ?_
      exact n30 t'
    · refine arr_value (o := eo4) (v := .pointer (some ⟨t, 0, none⟩)) (w' := w) rfl rfl (er4 rfl) ?_
      exact n21 t'
  have n01 : AnyArr Try.prog e5ops Q 8 #[false, false, false, false, true, false, false, false, false] ⟨#[.pointer (some ⟨p, 0, none⟩), .pointer (some ⟨t, 0, none⟩), x2, x3, x4, x5, x6, x7, x8, x9, x10, x11, x12, x13, x14, x15, x16, x17, x18, x19, x20, x21, x22, x23, x24, x25, x26, x27, x28, x29, undef, undef, undef, undef, .pointer (some ⟨t, 0, none⟩), undef, undef, undef], []⟩ w := by
    refine anyArr_succ [0, 5] (by kernel_rfl) (by simp) fun j hj t' => ?_
    rcases (show j = 0 ∨ j = 5 by simpa using hj) with rfl | rfl
    · refine arr_value (o := eo0) (v := .pointer (some ⟨p, 0, none⟩)) (w' := w) rfl rfl (er0 rfl) ?_
      exact n11 t'
    · refine arr_value (o := eo5) (v := .pointer (some ⟨t, 0, none⟩)) (w' := w) rfl rfl (er5 rfl) ?_
      exact n02 t'
  have n10 : AnyArr Try.prog e5ops Q 8 #[true, false, false, false, false, false, false, false, false] ⟨#[.pointer (some ⟨p, 0, none⟩), .pointer (some ⟨t, 0, none⟩), x2, x3, x4, x5, x6, x7, x8, x9, x10, x11, x12, x13, x14, x15, x16, x17, x18, x19, x20, x21, x22, x23, x24, x25, x26, x27, x28, x29, .pointer (some ⟨p, 0, none⟩), undef, undef, undef, undef, undef, undef, undef], []⟩ w := by
    refine anyArr_succ [1, 4] (by kernel_rfl) (by simp) fun j hj t' => ?_
    rcases (show j = 1 ∨ j = 4 by simpa using hj) with rfl | rfl
    · refine arr_value (o := eo1) (v := .pointer (some ⟨p, 0, none⟩)) (w' := w) rfl rfl (er1 rfl) ?_
      exact n20 t'
    · refine arr_value (o := eo4) (v := .pointer (some ⟨t, 0, none⟩)) (w' := w) rfl rfl (er4 rfl) ?_
      exact n11 t'
  have n00 : AnyArr Try.prog e5ops Q 9 #[false, false, false, false, false, false, false, false, false] ⟨#[.pointer (some ⟨p, 0, none⟩), .pointer (some ⟨t, 0, none⟩), x2, x3, x4, x5, x6, x7, x8, x9, x10, x11, x12, x13, x14, x15, x16, x17, x18, x19, x20, x21, x22, x23, x24, x25, x26, x27, x28, x29, undef, undef, undef, undef, undef, undef, undef, undef], []⟩ w := by
    refine anyArr_succ [0, 4] (by kernel_rfl) (by simp) fun j hj t' => ?_
    rcases (show j = 0 ∨ j = 4 by simpa using hj) with rfl | rfl
    · refine arr_value (o := eo0) (v := .pointer (some ⟨p, 0, none⟩)) (w' := w) rfl rfl (er0 rfl) ?_
      exact n10 t'
    · refine arr_value (o := eo4) (v := .pointer (some ⟨t, 0, none⟩)) (w' := w) rfl rfl (er4 rfl) ?_
      exact n01 t'
  exact n00

end Go.Proofs.Ytimhdegdmdilaaa
/- What New does, for every number of ids. -/
namespace Go.Proofs.Ytimhdegdmdilaaa
open Go.RowKit Go.Conc
set_option linter.unusedVariables false
set_option maxRecDepth 100000
set_option maxRecDepth 100000
set_option linter.unusedSimpArgs false
set_option linter.unnecessarySimpa false

theorem bytes3 : ∃ i, Try.prog.info? 3 = some i ∧ i.bytes = 8 := by
  have h : (Try.prog.info? 3).map (·.bytes) = some 8 := by kernel_rfl
  obtain ⟨i, hi, hb⟩ := Option.map_eq_some_iff.1 h
  exact ⟨i, hi, hb⟩
theorem mkChan (n : Nat) (h : n ≤ 4096) (w : World) : (Instr.makeChan 177 (.int .i64 n)).run Try.prog w = .ok (.chan (some w.heap.size)) (w.alloc (.chan n #[] false 0 0 false)) := by
  obtain ⟨i, hi, hb⟩ := bytes3
  exact run_makeChan (P := Try.prog) (w := w) Try.underlying177 hi .i64 n (by omega) (by rw [hb]; omega)
/-- the ids 1 to n -/
def upto (n : Nat) : List Nat := List.range' 1 n
theorem upto_succ (n : Nat) : upto (n + 1) = upto n ++ [n + 1] := by
  unfold upto
  rw [List.range'_concat, Nat.one_mul, Nat.add_comm 1 n]
theorem upto_length (n : Nat) : (upto n).length = n := by simp [upto]

/-- the slots of New in its loop -/
def NewAt (n p c : Nat) (w0 : World) (m : Nat) (a : Act) (w : World) : Prop :=
  ∃ j : Nat, j ≤ n ∧ m = n - j ∧ (∃ x1 x5 x6 x7 x8 x9 x10 x11 x12 x13 x14 x15 x16 x19 x20 x21 x22 x23 x24 x25 x26 x27 x28 : Value,
    a = ⟨#[.int .i64 n, x1, .pointer none, .int .i64 0, at0 p, x5, x6, x7, x8, x9, x10, x11, x12, x13, x14, x15, x16, .int .i64 n, .int .i64 j, x19, x20, x21, x22, x23, x24, x25, x26, x27, x28], []⟩) ∧
    Pool w p c n 0 (upto j) ∧ w.heap.size = w0.heap.size + 2 ∧ Below w0.heap.size w0 w

end Go.Proofs.Ytimhdegdmdilaaa
/- Contracts of New and Take without the sizes of memory; the example of layer 4 returns true. -/
namespace Go.Proofs.Ytimhdegdmdilaaa
open Go.RowKit Go.Conc
set_option linter.unusedVariables false
set_option maxRecDepth 100000
set_option maxRecDepth 100000
set_option linter.unusedSimpArgs false
set_option linter.unnecessarySimpa false
def NewPost (n : Nat) (w : World) (e : Ending) (w' : World) : Prop :=
  ∃ p c, e = .returned (.tuple #[at0 p, .int .i64 0]) ∧ Pool w' p c n 0 (upto n) ∧ w.heap.size ≤ p ∧ w.heap.size ≤ c ∧ Below w.heap.size w w'
def TakePost (p c k : Nat) (out : Int) (i : Nat) (q : List Nat) (w : World) (e : Ending) (w' : World) : Prop :=
  ∃ t, e = .returned (.tuple #[at0 t, .int .i64 0]) ∧ Pool w' p c k (out + 1) q ∧ Tok w' t p i true ∧ w.heap.size ≤ t ∧ Keep [p, c] w w'
end Go.Proofs.Ytimhdegdmdilaaa
