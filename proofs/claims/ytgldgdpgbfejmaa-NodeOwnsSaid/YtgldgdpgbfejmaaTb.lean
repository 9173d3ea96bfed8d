/- What Take does, for every pool; what a call leaves alone. -/
import Derived.Test.YtgldgdpgbfejmaaTa
import Derived.Deep.Cut
import Derived.Deep.QuietTactic
namespace Go.Proofs.Ytgldgdpgbfejmaa
open Go.RowKit Go.Conc
set_option linter.unusedVariables false
set_option linter.unusedSimpArgs false
theorem setChan_far (w : World) (c c' cap : Nat) (buf : Array Value) (cl : Bool) (s r : Nat) (tm : Bool) (h : c' ≠ c) : (w.setChan c cap buf cl s r tm).heap[c']? = w.heap[c']? := by
  simp only [World.setChan]; rw [Array.getElem?_setIfInBounds_ne (Ne.symm h)]
theorem Blk.chan {w : World} {g : Nat} {t : TypeId} {cs : Array Value} (h : Blk w g t cs) {c : Nat} (hc : g ≠ c) (cap : Nat) (buf : Array Value) (cl : Bool) (s r : Nat) (tm : Bool) : Blk (w.setChan c cap buf cl s r tm) g t cs := (setChan_far w c g cap buf cl s r tm hc).trans h

set_option maxRecDepth 100000 in
set_option maxHeartbeats 1000000 in
theorem take_none (p c k : Nat) (out : Int) (w : World) (h : Pool w p c k out []) : Calls Try.prog 33 #[at0 p] w fun e w' => e = .returned (.tuple #[.pointer none, .int .i64 6]) ∧ w = w' := by
  obtain ⟨h, s, r, hc⟩ := h
  obtain ⟨⟨h0, h1, h2⟩, f0, f1, f2⟩ := tok3 h
  unfold at0
  refine calls_of_wpN Try.func33 rfl ?_
  simp only [Try.ntmps33, List.size_toArray, List.length_cons, List.length_nil, Nat.reduceAdd, Nat.reduceSub, Array.replicate_succ, Array.replicate_zero, List.push_toArray, List.append_toArray, List.nil_append, List.cons_append]
  refine wpN_seq' ?_
  go_wp2
  refine wpN_seq' ?_
  go_wp2
  refine wpN_seq' ?_
  go_wp2
  refine wpN_seq (wpN_region ?_)
  simp only [List.size_toArray, List.length_cons, List.length_nil, Nat.reduceAdd, Nat.zero_add, List.range, List.range.loop]
  refine arr_select_none (c := c) (z := .int .i64 0) (w' := w) rfl rfl (by simp [go_sem, execOp, rcase, Act.eval]) hc ?_
  refine arr_drop 1 rfl ?_
  walk_nrm
  simp only [List.drop]
  go_wp2
  refine wpN_of_wp ?_
  go_wp2
  go_ret2
  exact ⟨rfl, rfl⟩

/-- what a call leaves alone: all that lay there but the blocks of X -/
structure Keep (X : List Nat) (w w' : World) : Prop where
  all : Below 0 w w'
  block : ∀ b, b < w.heap.size → b ∉ X → w'.heap[b]? = w.heap[b]?
theorem Keep.refl (X : List Nat) (w : World) : Keep X w w := ⟨Below.refl _ _, fun _ _ _ => rfl⟩
theorem Keep.trans {X : List Nat} {a b c : World} (h : Keep X a b) (k : Keep X b c) : Keep X a c :=
  ⟨h.all.trans k.all, fun i hi hx => (k.block i (Nat.lt_of_lt_of_le hi h.all.size) hx).trans (h.block i hi hx)⟩
theorem Keep.mono {X Y : List Nat} {a b : World} (h : Keep X a b) (hs : ∀ x ∈ X, x ∈ Y ∨ a.heap.size ≤ x) : Keep Y a b :=
  ⟨h.all, fun i hi hx => h.block i hi fun hm => by
    rcases hs i hm with h1 | h1
    · exact hx h1
    · omega⟩
theorem Keep.below {X : List Nat} {a b : World} (h : Keep X a b) {B : Nat} (hB : B ≤ a.heap.size) (hs : ∀ x ∈ X, B ≤ x) : Below B a b :=
  ⟨h.all.os, h.all.tape, h.all.output, h.all.size, fun i hi => h.block i (by omega) fun hm => by have := hs i hm; omega⟩
theorem Keep.of_below {X : List Nat} {a b : World} (h : Below a.heap.size a b) : Keep X a b := ⟨h.mono (Nat.zero_le _), fun i hi _ => h.block i hi⟩
theorem Keep.alloc {X : List Nat} {a w : World} (h : Keep X a w) (o : Obj) : Keep X a (w.alloc o) :=
  h.trans (.of_below ((Below.refl _ _).alloc (Nat.le_refl _) o))
theorem Keep.setCell {X : List Nat} {a w : World} (h : Keep X a w) {p : Addr} (hp : p.block ∈ X) (u : Value) : Keep X a (w.setCell p u) :=
  h.trans ⟨(Below.refl _ _).setCell (Nat.zero_le _) u, fun i hi hx => Below.heap_setCell w p u i (fun e => hx (e ▸ hp))⟩
theorem Keep.setChan {X : List Nat} {a w : World} (h : Keep X a w) {c : Nat} (hp : c ∈ X) (cap : Nat) (buf : Array Value) (cl : Bool) (s r : Nat) (tm : Bool) : Keep X a (w.setChan c cap buf cl s r tm) :=
  h.trans ⟨below_setChan (Below.refl _ _) (Nat.zero_le _) cap buf cl s r tm, fun i hi hx => setChan_far w c i cap buf cl s r tm (fun e => hx (e ▸ hp))⟩
theorem Keep.drewN {X : List Nat} {a w : World} (h : Keep X a w) (n : Nat) : Keep X a (w.drewN n) := ⟨⟨h.all.os, h.all.tape, h.all.output, h.all.size, fun i hi => by omega⟩, h.block⟩
theorem Blk.keep {w w' : World} {X : List Nat} {g : Nat} {t : TypeId} {cs : Array Value} (h : Blk w g t cs) (hk : Keep X w w') (hg : g ∉ X) : Blk w' g t cs := (hk.block g h.lt hg).trans h
theorem Tok.keep {w w' : World} {X : List Nat} {t p id : Nat} {l : Bool} (h : Tok w t p id l) (hk : Keep X w w') (hg : t ∉ X) : Tok w' t p id l := Blk.keep h hk hg
theorem Tok.lt {w : World} {t p id : Nat} {l : Bool} (h : Tok w t p id l) : t < w.heap.size := Blk.lt h
theorem Pool.lt {w : World} {p c k : Nat} {out : Int} {q : List Nat} (h : Pool w p c k out q) : p < w.heap.size ∧ c < w.heap.size ∧ p ≠ c := by
  obtain ⟨hb, s, r, hc⟩ := h
  refine ⟨hb.lt, ?_, ?_⟩
  · rcases Nat.lt_or_ge c w.heap.size with hlt | hge
    · exact hlt
    · rw [Array.getElem?_eq_none hge] at hc; cases hc
  · rintro rfl
    unfold Blk at hb; rw [hb] at hc; cases hc
theorem Pool.keep {w w' : World} {X : List Nat} {p c k : Nat} {out : Int} {q : List Nat} (h : Pool w p c k out q) (hk : Keep X w w') (hp : p ∉ X) (hc : c ∉ X) : Pool w' p c k out q := by
  have hl := h.lt
  obtain ⟨hb, s, r, hch⟩ := h
  exact ⟨hb.keep hk hp, s, r, (hk.block c hl.2.1 hc).trans hch⟩
theorem Tok.ne {w : World} {t p id : Nat} {l : Bool} (h : Tok w t p id l) {p' c k : Nat} {out : Int} {q : List Nat} (hP : Pool w p' c k out q) : t ≠ p' ∧ t ≠ c := by
  obtain ⟨hb, s, r, hc⟩ := hP
  constructor
  · rintro rfl
    unfold Tok Blk at h; unfold Blk at hb; rw [hb] at h; cases h
  · rintro rfl
    unfold Tok Blk at h; rw [h] at hc; cases hc

theorem ids_getD (i : Nat) (q : List Nat) : (ids (i :: q)).getD 0 undef = .int .i64 i := by simp [ids]
theorem ids_tail (i : Nat) (q : List Nat) : (ids (i :: q)).extract 1 (ids (i :: q)).size = ids q := by
  apply Array.ext'
  simp [ids, List.take_of_length_le]
theorem ids_push (i : Nat) (q : List Nat) : (ids q).push (.int .i64 i) = ids (q ++ [i]) := by
  apply Array.ext'
  simp [ids, List.take_of_length_le]
theorem ids_size (q : List Nat) : (ids q).size = q.length := by simp [ids]

set_option maxRecDepth 100000 in
set_option maxHeartbeats 1000000 in
theorem take_some (p c k : Nat) (out : Int) (i : Nat) (q : List Nat) (w : World) (h : Pool w p c k out (i :: q)) (ho : 0 ≤ out ∧ out < 10000) :
    Calls Try.prog 33 #[at0 p] w fun e w' => e = .returned (.tuple #[at0 w.heap.size, .int .i64 0]) ∧ Pool w' p c k (out + 1) q ∧ Tok w' w.heap.size p i true ∧ w'.heap.size = w.heap.size + 1 ∧ Keep [p, c] w w' := by
  have hl := h.lt
  obtain ⟨h, s, r, hc⟩ := h
  have hs : (w.setChan c k (ids q) false s (r + 1) false).heap.size = w.heap.size := size_setChan w c k (ids q) false s (r + 1) false
  have hC := heap_setChan w c k (ids q) false s (r + 1) false hl.2.1
  have hB := h.chan hl.2.2 k (ids q) false s (r + 1) false
  have hK : Keep [p, c] w (w.setChan c k (ids q) false s (r + 1) false) := (Keep.refl _ w).setChan (by simp) _ _ _ _ _ _
  obtain ⟨⟨h0, h1, h2⟩, f0, f1, f2⟩ := tok3 h
  unfold at0
  refine calls_of_wpN Try.func33 rfl ?_
  simp only [Try.ntmps33, List.size_toArray, List.length_cons, List.length_nil, Nat.reduceAdd, Nat.reduceSub, Array.replicate_succ, Array.replicate_zero, List.push_toArray, List.append_toArray, List.nil_append, List.cons_append]
  refine wpN_seq' ?_
  go_wp2
  refine wpN_seq' ?_
  go_wp2
  refine wpN_seq' ?_
  go_wp2
  refine wpN_seq (wpN_region ?_)
  simp only [List.size_toArray, List.length_cons, List.length_nil, Nat.reduceAdd, Nat.zero_add, List.range, List.range.loop]
  refine arr_select_got (c := c) (z := .int .i64 0) (w' := w) rfl rfl (by simp [go_sem, execOp, rcase, Act.eval]) hc (by rw [ids_size]; simp) ?_
  rw [ids_getD, ids_tail]
  refine arr_drop 1 rfl ?_
  generalize w.setChan c k (ids q) false s (r + 1) false = W at hs hC hB hK ⊢
  clear h0 h1 h2 f0 f1 f2 hc
  obtain ⟨⟨h0, h1, h2⟩, f0, f1, f2⟩ := tok3 hB
  have hadd : IntKind.i64.wrap (out + 1) = out + 1 := IntWalk.i64_in _ (by omega)
  walk_nrm
  simp only [List.drop]
  have HS := Lib.hid hs
  clear hs
  go_wp2
  refine wpN_of_wp ?_
  go_wp2
  refine bodyPost_ret (v := .tuple #[at0 w.heap.size, .int .i64 0]) (by simp [results, Try.results33, go_sem, at0, HS.out]) rfl ⟨rfl, ?_⟩
  refine ⟨⟨?_, s, r + 1, ?_⟩, ?_, ?_, ?_⟩
  · exact ((hB.set_ 2 _).alloc _)
  · rw [Below.heap_alloc _ _ _ (by simp [HS.out]; omega), Below.heap_setCell _ _ _ _ (by simpa using Ne.symm hl.2.2)]
    exact hC
  · have := Blk.new (W.setCell ⟨p, 2, none⟩ (.int .i64 (out + 1))) 112 #[at0 p, .int .i64 i, .bool true]
    have hsz : (W.setCell ⟨p, 2, none⟩ (.int .i64 (out + 1))).heap.size = w.heap.size := by simp [HS.out]
    rw [hsz] at this
    exact this
  · simp [HS.out]
  · exact (hK.setCell (by simp) _).alloc _
theorem take_nil (w : World) : Calls Try.prog 33 #[.pointer none] w fun e w' => e = .returned (.tuple #[.pointer none, .int .i64 4]) ∧ w = w' := by
  refine calls_of_wpN Try.func33 rfl ?_
  simp only [Try.ntmps33, List.size_toArray, List.length_cons, List.length_nil, Nat.reduceAdd, Nat.reduceSub, Array.replicate_succ, Array.replicate_zero, List.push_toArray, List.append_toArray, List.nil_append, List.cons_append]
  refine wpN_seq' ?_
  go_wp2
  refine wpN_seq' ?_
  go_wp2
  go_ret2
  exact ⟨rfl, rfl⟩
end Go.Proofs.Ytgldgdpgbfejmaa
