/- Nodes that are built: what was handed in, buckets that grow. -/
import Derived.Test.YtchimfgbdfmegaaGreatGav
import Derived.Test.YtchimfgbdfmegaaGreatGap
namespace Go.Proofs.YtchimfgbdfmegaaGreat
open Go.ChangeShapes Go.WideShapes Go.RowKit Go.Lib Go.Deep
set_option linter.unusedVariables false
set_option linter.unusedSimpArgs false
set_option maxRecDepth 100000
attribute [local irreducible] cnt
/-- an act's cells behind an address -/
def RawAt (w : World) (x : Addr) : Prop := ∃ (dd ii : Nat) (q : Pr) (a : Option Addr) (len cap : Nat) (ps : List Pr), dd < 256 ∧ ii < 256 ∧ (∀ (k : Nat) (u : Value), [Value.int .u8 dd, .int .u8 ii, .string q.1, .string q.2, .slice a len cap][k]? = some u → w.cell? (x.add k) = some u) ∧ ArgP w a len cap ps
def ArgW (w : World) (a : Option Addr) (len cap : Nat) : Prop :=
  (a = none ∧ len = 0 ∧ cap = 0) ∨ ∃ x, a = some x ∧ len ≤ cap ∧ cap ≤ maxLen ∧ ∀ j, j < len → RawAt w (x.add (j * 5))
theorem RawAt.below {w w' : World} {x : Addr} (h : RawAt w x) (hb : Below w.heap.size w w') : RawAt w' x := by
  obtain ⟨dd, ii, q, a, len, cap, ps, h1, h2, hc, hp⟩ := h
  exact ⟨dd, ii, q, a, len, cap, ps, h1, h2, fun k u hk => (hb.cell (World.block_lt_of_cell? w _ (hc k u hk))).trans (hc k u hk), hp.below hb⟩
theorem ArgW.below {w w' : World} {a : Option Addr} {len cap : Nat} (h : ArgW w a len cap) (hb : Below w.heap.size w w') : ArgW w' a len cap := by
  rcases h with h | ⟨x, rfl, h1, h2, h3⟩
  · exact .inl h
  · exact .inr ⟨x, rfl, h1, h2, fun j hj => (h3 j hj).below hb⟩
theorem ArgW.len_le {w : World} {a : Option Addr} {len cap : Nat} (h : ArgW w a len cap) : len ≤ maxLen := by
  rcases h with ⟨_, h, _⟩ | ⟨x, rfl, hl, hm, _⟩
  · omega
  · omega
/-- the act at a place, as the walk spells its cells -/
theorem ArgW.at {w wr : World} {a : Option Addr} {len cap : Nat} (h : ArgW w a len cap) (hB : Below w.heap.size w wr) (j : Nat) (hj : j < len) :
    ∃ (x : Addr) (dd ii : Nat) (q : Pr) (b : Option Addr) (lb cb : Nat) (ps : List Pr), a = some x ∧ dd < 256 ∧ ii < 256 ∧ wr.cell? (x.add (j * 5)) = some (.int .u8 dd) ∧ wr.cell? ⟨(x.add (j * 5)).block, (x.add (j * 5)).off + 1, none⟩ = some (.int .u8 ii) ∧ wr.cell? ⟨(x.add (j * 5)).block, (x.add (j * 5)).off + 2, none⟩ = some (.string q.1) ∧ wr.cell? ⟨(x.add (j * 5)).block, (x.add (j * 5)).off + 3, none⟩ = some (.string q.2) ∧ wr.cell? ⟨(x.add (j * 5)).block, (x.add (j * 5)).off + 4, none⟩ = some (.slice b lb cb) ∧ ArgP w b lb cb ps := by
  rcases h with ⟨_, h, _⟩ | ⟨x, rfl, hl, hm, hA⟩
  · omega
  · obtain ⟨dd, ii, q, b, lb, cb, ps, h1, h2, hc, hp⟩ := hA j hj
    have f : ∀ (k : Nat) (u : Value), [Value.int .u8 dd, .int .u8 ii, .string q.1, .string q.2, .slice b lb cb][k]? = some u → wr.cell? ((x.add (j * 5)).add k) = some u := fun k u hk => (hB.cell (World.block_lt_of_cell? w _ (hc k u hk))).trans (hc k u hk)
    exact ⟨x, dd, ii, q, b, lb, cb, ps, rfl, h1, h2, f 0 _ rfl, f 1 _ rfl, f 2 _ rfl, f 3 _ rfl, f 4 _ rfl, hp⟩
theorem u8_nat {n : Int} (h : (Lit.int .u8 n).wf = true) : ∃ m : Nat, n = m ∧ m < 256 := by
  simp [Lit.wf, IntKind.min, IntKind.max, IntKind.signed, IntKind.bits] at h
  exact ⟨n.toNat, by omega, by omega⟩
theorem fields88 : ∃ f0 f1 f2 f3, Tryz.prog.underlying 88 = some (.struct #[f0, f1, f2, f3]) ∧ (f0.offset = 0 ∧ f1.offset = 1 ∧ f2.offset = 2 ∧ f3.offset = 4) ∧ f0.type = 5 ∧ f1.type = 5 ∧ f2.type = 52 ∧ f3.type = 27 := ⟨_, _, _, _, Tryz.underlying88, ⟨rfl, rfl, rfl, rfl⟩, rfl, rfl, rfl, rfl⟩
theorem cellsOf88 : Tryz.prog.cellsOf 88 = 5 := by kernel_rfl
theorem cellsOf5 : Tryz.prog.cellsOf 5 = 1 := by kernel_rfl
theorem cellsOf52 : Tryz.prog.cellsOf 52 = 2 := by kernel_rfl
theorem cellsOf27 : Tryz.prog.cellsOf 27 = 1 := by kernel_rfl
theorem cellsOf9 : Tryz.prog.cellsOf 9 = 1 := by kernel_rfl
theorem list2 {α : Type} (l : List α) (h : l.length = 2) : ∃ a b, l = [a, b] := by
  rcases l with _ | ⟨a, _ | ⟨b, _ | ⟨c, l⟩⟩⟩ <;> first | (exact ⟨_, _, rfl⟩) | (simp at h)
theorem list4 {α : Type} (l : List α) (h : l.length = 4) : ∃ a b c d, l = [a, b, c, d] := by
  rcases l with _ | ⟨a, _ | ⟨b, _ | ⟨c, _ | ⟨d, _ | ⟨e, l⟩⟩⟩⟩⟩ <;> first | (exact ⟨_, _, _, _, rfl⟩) | (simp at h)
theorem list5 {α : Type} (l : List α) (h : l.length = 5) : ∃ a b c d e, l = [a, b, c, d, e] := by
  rcases l with _ | ⟨a, l⟩
  · simp at h
  · obtain ⟨b, c, d, e, rfl⟩ := list4 l (by simpa using h)
    exact ⟨_, _, _, _, _, rfl⟩
theorem open_raws {H : Type} {enc : TypeId × Value → H} {W : World} {base : Nat} {spare : Nat → Bool} {held : Bool} {a : Option Addr} {len cap : Nat} {d : DataW H} {p : List MemPlace}
    (h : DataW.Trod enc Tryz.prog W base spare held 46 (.slice a len cap) d p) : ArgW W a len cap := by
  obtain ⟨fuel, hf⟩ := h
  rcases open_slice Tryz.underlying46 hf with ⟨hcs, _⟩ | ⟨x, l, c, m, n, D, Pl, hcs, _, hl, hm, hmm, _, hx⟩
  · simp [Value.cells] at hcs
    obtain ⟨rfl, rfl, rfl⟩ := hcs
    exact .inl ⟨rfl, rfl, rfl⟩
  · simp [Value.cells] at hcs
    obtain ⟨rfl, rfl, rfl⟩ := hcs
    have hlm : len ≤ m := by rw [hmm]; split <;> omega
    refine .inr ⟨x, rfl, hl, hm, fun j hj => ?_⟩
    obtain ⟨cs', h1, h2⟩ := hx j (by omega)
    rw [cellsOf88] at h1
    obtain ⟨_, hlen, hcell⟩ := World.cells?_some h1
    obtain ⟨f0, f1, f2, f3, hu, ⟨o0, o1, o2, o3⟩, t0, t1, t2, t3⟩ := fields88
    obtain ⟨xs, k, hk, hxy, _, hxl, hff⟩ := DataW.trod_struct hu h2
    obtain ⟨y0, y1, y2, y3, rfl⟩ := list4 xs hxl
    obtain ⟨v0, v1, v2, v3, v4, rfl⟩ := list5 cs' hlen
    have g0 := hff 0 f0 rfl
    have g1 := hff 1 f1 rfl
    have g2 := hff 2 f2 rfl
    have g3 := hff 3 f3 rfl
    simp [o0, o1, o2, o3, t0, t1, t2, t3, cellsOf5, cellsOf52, cellsOf27] at g0 g1 g2 g3
    obtain ⟨n0, e0, _, b0⟩ := DataW.trod_int Tryz.underlying5 g0
    obtain ⟨n1, e1, _, b1⟩ := DataW.trod_int Tryz.underlying5 g1
    obtain ⟨F0, F1, hu2, p0, p1, s0, s1⟩ := fields33
    obtain ⟨ys, k2, _, _, _, hyl, hgg⟩ := DataW.trod_struct hu2 g2
    obtain ⟨z0, z1, rfl⟩ := list2 ys hyl
    have q0 := hgg 0 F0 rfl
    have q1 := hgg 1 F1 rfl
    simp [p0, p1, s0, s1, cellsOf9] at q0 q1
    obtain ⟨S0, E0, _, B0⟩ := DataW.trod_string Tryz.underlying9 q0
    obtain ⟨S1, E1, _, B1⟩ := DataW.trod_string Tryz.underlying9 q1
    obtain ⟨m0, rfl, l0⟩ := u8_nat b0
    obtain ⟨m1, rfl, l1⟩ := u8_nat b1
    have hs : ∃ b lb cb, v4 = .slice b lb cb := by
      rcases open_slice Tryz.underlying27 g3 with ⟨hcs, _⟩ | ⟨x', l', c', m', n', D', Pl', hcs, _⟩
      · simp at hcs; exact ⟨_, _, _, hcs⟩
      · simp at hcs; exact ⟨_, _, _, hcs⟩
    obtain ⟨b, lb, cb, rfl⟩ := hs
    obtain ⟨ps, hps⟩ := open_pairs (⟨_, g3⟩ : DataW.Trod _ Tryz.prog W _ _ _ 27 (.slice b lb cb) _ _)
    simp at e0 e1 E0 E1
    refine ⟨m0, m1, (S0, S1), b, lb, cb, ps, l0, l1, fun kk u hu => ?_, hps⟩
    subst e0 e1 E0 E1
    have hkk := (List.getElem?_eq_some_iff.1 hu).1
    have := hcell kk (by simpa using hkk)
    rw [this]
    exact hu
/-- a bucket that nobody's token may change -/
def BkN (base : Nat) (w : World) (L : List Pr) (b : Nat) : Prop := ∃ (ow : Option Nat) (lo : Bool) (pv kv : Value), NdV base w b (pt ow) true 0 0 pv kv L [] ∧ TV w ow lo
section
variable {base : Nat} {w w' : World} {b : Nat} {L : List Pr}
theorem BkN.node (h : BkN base w L b) : NdR base w (.bucket L) b := by
  obtain ⟨ow, lo, pv, kv, h, -⟩ := h
  exact ⟨_, pv, kv, h⟩
theorem BkN.below (h : BkN base w L b) (hb : Below w.heap.size w w') : BkN base w' L b := by
  obtain ⟨ow, lo, pv, kv, h, hv⟩ := h
  exact ⟨ow, lo, pv, kv, h.below hb, hv.below hb⟩
theorem BkN.new (hb : base ≤ w.heap.size) : Calls Tryz.prog 39 #[] w fun e w' => ∃ b1, e = .returned (at0 b1) ∧ BkN base w' [] b1 ∧ Below w.heap.size w w' := by
  refine (bucket_any w).mono ?_
  rintro e w1 ⟨rfl, hN, hB⟩
  exact ⟨_, rfl, ⟨none, false, _, _, hN.base hb, TV.nil _⟩, hB⟩
theorem BkN.put (h : BkN base w L b) (p : Pr) (hr : RisesL L) (hl : L.length ≤ 800) (hb : base ≤ w.heap.size) :
    Calls Tryz.prog 40 #[at0 b, .pointer none, p.v] w fun e w' => ∃ b1, e = .returned (at0 b1) ∧ BkN base w' (putK L p) b1 ∧ Below w.heap.size w w' := by
  obtain ⟨ow, lo, pv, kv, hN, hv⟩ := h
  refine (put_in base b p ow none lo false 0 0 pv kv L [] w hN (TV.nil _) hv hr hl (by simp) hb).mono ?_
  rintro e w1 ⟨b1, pv1, kv1, rfl, hN1, hC⟩
  have ho : ownB ow none false = false := by unfold ownB; rfl
  rw [ho] at hC
  exact ⟨b1, rfl, ⟨none, false, pv1, kv1, hN1, TV.nil _⟩, hC.below0⟩
theorem no60 {o : Value} {bk : Bool} {d nn : Nat} {pv kv : Value} {xs : List Pr} {ks : List Nat} (h : NdV base w b o bk d nn pv kv xs ks) {X : List Nat} (hX : ∀ x ∈ X, ∃ cs, Blk w x 60 cs) : ∀ x ∈ foot b pv kv, x ∉ X := fun x hx hm => by
  obtain ⟨cs, hc⟩ := hX x hm
  exact h.noTy hc (by decide) (by decide) (by decide) x hx rfl
theorem tok60 {X : List Nat} (hX : ∀ x ∈ X, ∃ cs, Blk w x 60 cs) : ∀ x ∈ X, ∀ cs, ¬ Blk w x 107 cs := fun x hm cs' hc' => by
  obtain ⟨cs, hc⟩ := hX x hm
  unfold Blk at hc hc'
  rw [hc] at hc'
  simp at hc'
/-- other kinds of blocks are written -/
theorem BkN.keepT (h : BkN base w L b) {X : List Nat} (hk : Keep X w w') (hX : ∀ x ∈ X, ∃ cs, Blk w x 60 cs) : BkN base w' L b := by
  obtain ⟨ow, lo, pv, kv, hN, hv⟩ := h
  exact ⟨ow, lo, pv, kv, hN.keep hk (no60 hN hX), hv.keep hk (tok60 hX)⟩
theorem RootN.keepT {P : Nat → Option Pr} {K : Nat → RT} (h : RootN base w P K b) {X : List Nat} (hk : Keep X w w') (hX : ∀ x ∈ X, ∃ cs, Blk w x 60 cs) : RootN base w' P K b := by
  obtain ⟨ow, lo, S, pv, kv, ⟨d, nn, hN, hd, hn⟩, hv, hs⟩ := h
  refine ⟨ow, lo, S, pv, kv, ⟨d, nn, hN.keep hk (no60 hN hX), hd, hn⟩, hv.keep hk (tok60 hX), fun c hc => ⟨(hs c hc).1, ?_⟩⟩
  rcases (hs c hc).2 with h | ⟨k, a, b', h⟩
  · exact .inl h
  · refine .inr ⟨k, a, b', NdR.keepF (KeepF.ofKeep hk) (fun x hx t cs hb => ?_) _ _ h⟩
    obtain ⟨cs', hc'⟩ := hX x hx
    unfold Blk at hb hc'
    rw [hc'] at hb
    simp at hb
    obtain ⟨-, rfl⟩ := hb
    decide
end
theorem build133b (ev : Operand → Value) (o : Oper) (s : Operand) (w : World) (ho : o.op = .build 60 #[(0, s)]) (hs : ev s = .bool true) :
    (execOp ev o).run Tryz.prog w = .ok (.value (.agg (rcs (rb0 true (.slice none 0 0))).toArray)) w := by
  unfold execOp
  simp only [ho, List.map_toArray, List.map_cons, List.map_nil, hs]
  clear ho hs
  kernel_rfl
/-- the reference's bucket that grows -/
def BkR (base : Nat) (N : Nat → Prop) (w : World) (L : List Pr) (b : Nat) : Prop := ∃ f v, RB w b f ∧ ¬ N b ∧ f 0 = .bool true ∧ f 1 = v ∧ OwnR base w v L ∧ ∀ c, c < 32 → f (2 + c) = .int .i64 0
theorem BkR.below {base : Nat} {N : Nat → Prop} {w w' : World} {L : List Pr} {b : Nat} (h : BkR base N w L b) (hb : Below w.heap.size w w') : BkR base N w' L b := by
  obtain ⟨f, v, h1, h2, h3, h4, h5, h6⟩ := h
  exact ⟨f, v, h1.below hb, h2, h3, h4, h5.below' hb, h6⟩
theorem BkR.rf {base : Nat} {N : Nat → Prop} {w : World} {L : List Pr} {b : Nat} (h : BkR base N w L b) (hN : ∀ x, N x → x < base) : RfN N w (.bucket L) b := by
  obtain ⟨f, v, h1, h2, h3, h4, h5, h6⟩ := h
  obtain ⟨A, c, rfl, hR, hA⟩ := h5.rd0
  refine ⟨f, A, c, h1, h2, h3, h4, hR, fun a ha => ?_, h6, hA⟩
  subst ha
  rcases h5.2 with ⟨e, _⟩ | ⟨g, cap, cur, e, hg, hc, _⟩
  · simp at e
  · simp only [Value.slice.injEq, Option.some.injEq] at e
    obtain ⟨rfl, -, -⟩ := e
    exact ⟨fun h => by have h1 : g < base := hN _ h; omega, (Array.getElem?_eq_some_iff.1 hc).1⟩
end Go.Proofs.YtchimfgbdfmegaaGreat
