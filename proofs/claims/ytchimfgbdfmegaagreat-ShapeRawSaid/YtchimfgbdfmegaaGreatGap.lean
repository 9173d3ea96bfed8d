/- What the reference's trees look like. -/
import Derived.Test.YtchimfgbdfmegaaGreatGam
import Derived.Test.YtchimfgbdfmegaaGreatGao
import Derived.BigQuiet
import Derived.Deep.RegionHeld3
import Derived.Deep.AppendLies
import Derived.Laws.AppendOwnNone
import Derived.ArgAppend
import Derived.Test.YtchimfgbdfmegaaGreatGai
namespace Go.Proofs.YtchimfgbdfmegaaGreat
open Go.RowKit Go.Lib
set_option linter.unusedVariables false
set_option linter.unusedSimpArgs false
set_option maxRecDepth 100000
attribute [local irreducible] cnt
/-- where the reference's nodes lie -/
def RfR (w : World) : RT → Nat → Prop
  | .no, _ => False
  | .bucket L, b => ∃ f A c, RB w b f ∧ f 0 = .bool true ∧ f 1 = .slice A L.length c ∧ Rd w A L
  | .inner P K, b => ∃ f, RB w b f ∧ f 0 = .bool false ∧ ∀ c, c < 32 →
      (P c = none ∧ (K c).opt = none ∧ f (2 + c) = .int .i64 0) ∨
      (∃ p, P c = some p ∧ (K c).opt = none ∧ f (2 + c) = .int .i64 1 ∧ f (34 + c * 2) = .string p.1 ∧ f (34 + c * 2 + 1) = .string p.2) ∨
      (P c = none ∧ ∃ kb, (K c).opt = some (K c) ∧ f (2 + c) = .int .i64 2 ∧ f (98 + c) = at0 kb ∧ RfR w (K c) kb)
theorem RfR.below {w w' : World} (hb : Below w.heap.size w w') : ∀ (t : RT) (b : Nat), RfR w t b → RfR w' t b
  | .no, _, h => h
  | .bucket L, b, h => by
    obtain ⟨f, A, c, h1, h2, h3, h4⟩ := h
    exact ⟨f, A, c, h1.below hb, h2, h3, h4.below hb⟩
  | .inner P K, b, h => by
    obtain ⟨f, h1, h2, h3⟩ := h
    refine ⟨f, h1.below hb, h2, fun c hc => ?_⟩
    rcases h3 c hc with h | h | ⟨h4, kb, h5, h6, h7, h8⟩
    · exact .inl h
    · exact .inr (.inl h)
    · exact .inr (.inr ⟨h4, kb, h5, h6, h7, RfR.below hb (K c) kb h8⟩)
theorem TrieR.tree {H : ByteArray → Nat} {N : Nat → Prop} {w : World} : ∀ (n l b : Nat) (ps : List Pr), TrieR H N w n l b ps → RfR w (treeOf H n l ps) b
  | 0, l, b, ps, h => by
    obtain ⟨f, A, c, h1, h2, h3, h4, h5, h6⟩ := h
    exact ⟨f, A, c, h1, h3, h4, h5⟩
  | n + 1, l, b, ps, h => by
    obtain ⟨f, h1, h2, h3, h4⟩ := h
    refine ⟨f, h1, h3, fun c hc => ?_⟩
    have hs := h4 c hc
    rw [kids_opt]
    unfold SlotR at hs
    match hq : sub H l c ps, hs with
    | [], hs => exact .inl ⟨by show onep (sub H l c ps) = _; rw [hq]; rfl, rfl, hs⟩
    | [p], hs => exact .inr (.inl ⟨p, by show onep (sub H l c ps) = _; rw [hq]; rfl, rfl, hs.1, hs.2.1, hs.2.2⟩)
    | x :: y :: r, hs =>
      obtain ⟨h5, kb, h6, h7⟩ := hs
      have e : many (sub H l c ps) = some (x :: y :: r) := many_some.2 ⟨hq, by rw [hq]; simp⟩
      refine .inr (.inr ⟨by show onep (sub H l c ps) = _; rw [hq]; rfl, kb, ?_, h5, h6, ?_⟩)
      · simp only [e]; rfl
      · simp only [e]
        exact TrieR.tree n (l + 1) kb _ h7
def bitv (c : Nat) : Nat := if c < 32 then 2 ^ c else 0
theorem wrap_u32 (n : Nat) : IntKind.u32.wrap (n : Int) = ((n % 4294967296 : Nat) : Int) := by
  unfold IntKind.wrap
  simp [IntKind.bits, IntKind.signed]
theorem bit_next {c : Nat} (h : c < 32) : bitv c * 2 % 4294967296 = bitv (c + 1) := by
  unfold bitv
  rw [if_pos h]
  by_cases e : c + 1 < 32
  · rw [if_pos e, ← Nat.pow_succ]
    exact Nat.mod_eq_of_lt (Nat.pow_lt_pow_right (by decide) (by omega : c + 1 < 32))
  · obtain rfl : c = 31 := by omega
    decide
theorem fm_yes {α : Type} {f : Nat → Option α} {n : Nat} {a : α} (h : f n = some a) : fm f (n + 1) = fm f n ++ [a] := by rw [fm_succ, h]; rfl
theorem fm_nope {α : Type} {f : Nat → Option α} {n : Nat} (h : f n = none) : fm f (n + 1) = fm f n := by rw [fm_succ, h]; simp
theorem mask_yes {f : Nat → Bool} {c : Nat} (hc : c < 32) (h : f c = true) : maskTo f (c + 1) = maskTo f c + bitv c := by rw [maskTo_succ, h]; unfold bitv; rw [if_pos hc]; simp
theorem mask_no {f : Nat → Bool} {c : Nat} (h : f c = false) : maskTo f (c + 1) = maskTo f c := by rw [maskTo_succ, h]; simp
theorem fm_prefix {α : Type} (f : Nat → Option α) : ∀ (m n : Nat), n ≤ m → ∃ r, fm f m = fm f n ++ r
  | m, n, h => by
    induction m with
    | zero => obtain rfl : n = 0 := by omega
              exact ⟨[], by simp⟩
    | succ m ih =>
      by_cases e : n = m + 1
      · subst e; exact ⟨[], by simp⟩
      · obtain ⟨r, hr⟩ := ih (by omega)
        exact ⟨r ++ (f m).toList, by rw [fm_succ, hr, List.append_assoc]⟩
theorem flat_prefix {α : Type} (f : Nat → Option α) (g : α → List Nat) (n : Nat) (h : n ≤ 32) : ((fm f n).flatMap g).length ≤ ((fm f 32).flatMap g).length := by
  obtain ⟨r, hr⟩ := fm_prefix f 32 n h
  rw [hr, List.flatMap_append, List.length_append]
  omega
end Go.Proofs.YtchimfgbdfmegaaGreat
/- Put and Drop without a token; the document's example. -/
namespace Go.Proofs.YtchimfgbdfmegaaGreat
open Go.RowKit Go.Lib
set_option linter.unusedVariables false
set_option maxRecDepth 100000
set_option linter.unusedSimpArgs false
set_option maxRecDepth 100000
attribute [local irreducible] cnt
/-- a trie that nobody's token may change -/
def TP (k0 k1 m : Int) (base : Nat) (w : World) (b : Nat) (ps : List Pr) : Prop := Trie (hz k0 k1 m) (fun _ => False) none false base w 13 0 b ps (fun _ => False)
def hv3 (k0 k1 m : Int) : Value := .agg #[.int .u64 k0, .int .u64 k1, .int .u64 m]
section
variable {k0 k1 m : Int} {base : Nat} {w w' : World} {b : Nat} {ps : List Pr}
theorem TP.below (h : TP k0 k1 m base w b ps) (hb : Below w.heap.size w w') : TP k0 k1 m base w' b ps := Trie.below h hb
theorem cx_nil (hb : base ≤ w.heap.size) : Cx (fun _ => False) none false base w := ⟨TV.nil _, fun h => by simp at h, fun _ _ _ h => h, hb, fun h => by simp at h⟩
theorem ChPost.plain {b1 : Nat} (h : ChPost (hz k0 k1 m) (fun _ => False) none false base 13 0 ps (fun _ => False) w b1 w') : TP k0 k1 m base w' b1 ps ∧ Below w.heap.size w w' := by
  obtain ⟨F', hT, hK, -, -⟩ := h
  exact ⟨Trie.forget _ _ _ _ _ hT none, hK.below fun _ h => h⟩
theorem put_plain (p : Pr) (h0 : U64 k0) (h1 : U64 k1) (hs : p.1.size ≤ 1000) (hb : base ≤ w.heap.size) (h : TP k0 k1 m base w b ps) (hr : RisesL ps) (hn : ps.length ≤ 700) (hz1 : ∀ x ∈ ps, x.1.size ≤ 1000) :
    Calls Tryz.prog 28 #[.agg #[.int .u64 k0, .int .u64 k1, .int .u64 m], .pointer none, .pointer (some ⟨b, 0, none⟩), .agg #[.string p.1, .string p.2]] w fun e w' => ∃ b', e = .returned (.tuple #[.pointer (some ⟨b', 0, none⟩), .bool (getK ps p.1).isNone]) ∧ TP k0 k1 m base w' b' (putK ps p) ∧ Below w.heap.size w w' ∧ (getK ps p.1 = some p.2 → b' = b) := by
  cases hg : getK ps p.1 with
  | none =>
    refine (Put_none k0 k1 m _ none false base none p.1 p.2 b ps _ w rfl h0 h1 hs (cx_nil hb) h hr hn hz1 hg).mono ?_
    rintro e w1 ⟨b1, rfl, hP⟩
    exact ⟨b1, rfl, hP.plain.1, hP.plain.2, fun h => by simp at h⟩
  | some v =>
    by_cases hv : v = p.2
    · subst hv
      refine (Put_same k0 k1 m _ none false base none p.1 p.2 b ps _ w rfl h0 h1 hs h hn hg).mono ?_
      rintro e w1 ⟨rfl, hB⟩
      exact ⟨b, rfl, by rw [put_same hr hg]; exact h.below hB, hB, fun _ => rfl⟩
    · refine (Put_other k0 k1 m _ none false base none p.1 p.2 b ps _ w rfl h0 h1 hs (cx_nil hb) h hr hn hz1 v hg hv).mono ?_
      rintro e w1 ⟨b1, rfl, hP⟩
      exact ⟨b1, rfl, hP.plain.1, hP.plain.2, fun h => absurd (Option.some.inj h) hv⟩
theorem empty_plain (k0 k1 m : Int) (hb : base ≤ w.heap.size) : Calls Tryz.prog 27 #[] w (RetB fun b w' => TP k0 k1 m base w' b [] ∧ Below w.heap.size w w') := empty_any _ base w hb
end
theorem rises_nil : RisesL [] := List.Pairwise.nil
theorem rises_one (p : Pr) : RisesL [p] := List.pairwise_singleton _ _
theorem put_empty (p : Pr) : putK [] p = [p] := rfl
def prA : Pr := (⟨#[97]⟩, ⟨#[49]⟩)
def prB : Pr := (⟨#[98]⟩, ⟨#[50]⟩)
theorem getA : getK [prA] prB.1 = none := by decide
theorem lenAB : (putK [prA] prB).length = 2 := put_two (by decide)
theorem u64_zero : U64 0 := ⟨by decide, by decide⟩
theorem get_put {p : Pr} {ps : List Pr} (hr : RisesL (putK ps p)) : getK (putK ps p) p.1 = some p.2 := getK_of_mem hr (put_sets.2 (.inl rfl))
end Go.Proofs.YtchimfgbdfmegaaGreat
/- A hasher that was handed in. -/
namespace Go.Proofs.YtchimfgbdfmegaaGreat
open Go.ChangeShapes Go.WideShapes Go.RowKit Go.Lib Go.Deep
set_option linter.unusedVariables false
set_option maxRecDepth 100000
set_option linter.unusedSimpArgs false
set_option maxRecDepth 100000
theorem cells26 : Tryz.prog.cellsOf 26 = 3 := by kernel_rfl
theorem cells24 : Tryz.prog.cellsOf 24 = 2 := by kernel_rfl
theorem cells22 : Tryz.prog.cellsOf 22 = 1 := by kernel_rfl
theorem u64_wf {n : Int} (h : (Lit.int .u64 n).wf = true) : U64 n := by have := bounds_u64 h; unfold U64; omega
theorem open_hasher {H : Type} {enc : TypeId × Value → H} {W : World} {b base : Nat} {spare : Nat → Bool} {held : Bool} {v : Value} {d : DataW H} {p : List MemPlace}
    (hv : Value.okWide Tryz.prog W .any b 26 v) (h : DataW.Trod enc Tryz.prog W base spare held 26 v d p) : ∃ k0 k1 m, v = .agg #[.int .u64 k0, .int .u64 k1, .int .u64 m] ∧ U64 k0 ∧ U64 k1 ∧ U64 m := by
  obtain ⟨cs0, rfl, hsz0⟩ := okWide_struct Tryz.underlying26 hv
  rw [cells26] at hsz0
  obtain ⟨x0, y0, z0, rfl⟩ : ∃ x y z, cs0 = #[x, y, z] := by
    match cs0, hsz0 with
    | ⟨[x, y, z]⟩, _ => exact ⟨x, y, z, rfl⟩
  obtain ⟨fu0, hf0⟩ := h
  obtain ⟨s0, s1, n0, hx0, _, g0, g1⟩ := trod_struct2 Tryz.underlying26 hf0
  simp [Value.cells, cells24, cells22] at g0 g1
  obtain ⟨s2, s3, n1, hx1, _, g2, g3⟩ := trod_struct2 Tryz.underlying24 g0
  simp [cells22] at g2 g3
  obtain ⟨a0, e0, _, w0⟩ := DataW.trod_int Tryz.underlying22 g2
  obtain ⟨b0, e1, _, u0⟩ := DataW.trod_int Tryz.underlying22 g3
  obtain ⟨c0, e2, _, t0⟩ := DataW.trod_int Tryz.underlying22 g1
  simp at e0 e1 e2
  subst e0 e1 e2
  exact ⟨a0, b0, c0, rfl, u64_wf w0, u64_wf u0, u64_wf t0⟩
end Go.Proofs.YtchimfgbdfmegaaGreat
/- Rows of strings; lists that have the same pairs. -/
namespace Go.Proofs.YtchimfgbdfmegaaGreat
open Go.RowKit Go.Lib
set_option linter.unusedVariables false
set_option maxRecDepth 100000
set_option linter.unusedSimpArgs false
set_option maxRecDepth 100000
attribute [local irreducible] cnt
theorem rises_ext : ∀ {xs ys : List Pr}, RisesL xs → RisesL ys → (∀ p, p ∈ xs ↔ p ∈ ys) → xs = ys
  | [], [], _, _, _ => rfl
  | [], y :: ys, _, _, h => by have := (h y).2 (by simp); simp at this
  | x :: xs, [], _, _, h => by have := (h x).1 (by simp); simp at this
  | x :: xs, y :: ys, hx, hy, h => by
    have x1 := (List.pairwise_cons.1 hx).1
    have x2 := (List.pairwise_cons.1 hx).2
    have y1 := (List.pairwise_cons.1 hy).1
    have y2 := (List.pairwise_cons.1 hy).2
    have e : x = y := by
      rcases List.mem_cons.1 ((h x).1 (by simp)) with e | hm
      · exact e
      · rcases List.mem_cons.1 ((h y).2 (by simp)) with e | hm'
        · exact e.symm
        · exact absurd ((y1 x hm).trans (x1 y hm')) (fun h => h.ne rfl)
    subst e
    rw [rises_ext x2 y2 fun p => ?_]
    constructor
    · intro hp
      rcases List.mem_cons.1 ((h p).1 (List.mem_cons_of_mem _ hp)) with e | hm
      · subst e; exact absurd (x1 p hp) (fun h => h.ne rfl)
      · exact hm
    · intro hp
      rcases List.mem_cons.1 ((h p).2 (List.mem_cons_of_mem _ hp)) with e | hm
      · subst e; exact absurd (y1 p hp) (fun h => h.ne rfl)
      · exact hm
def scs (ks : List ByteArray) : List Value := ks.map Value.string
def OwnS (base : Nat) (w : World) (v : Value) (ks : List ByteArray) : Prop := w.ownsRow base 9 1 v ks.length (scs ks)
theorem OwnS.below {base : Nat} {w w' : World} {v : Value} {ks : List ByteArray} (h : OwnS base w v ks) (hb : Below w.heap.size w w') : OwnS base w' v ks := own_keep h (Keep.of_below (X := []) hb) (by simp)
theorem OwnS.nil (base : Nat) (w : World) : OwnS base w (.slice none 0 0) [] := ⟨rfl, .inl ⟨rfl, rfl⟩⟩
theorem info9 : (Tryz.prog.info? 9).map (fun i => (i.zero, i.size, i.bytes)) = some (some (.string ⟨#[]⟩), 1, 16) := by kernel_rfl
theorem zsz_str : (Value.cells (.string ⟨#[]⟩)).size = 1 := by simp [Value.cells]
theorem OwnS.at {base : Nat} {w : World} {v : Value} {ks : List ByteArray} (h : OwnS base w v ks) (j : Nat) (hj : j < ks.length) : ∃ g cap, v = .slice (some ⟨g, 0, none⟩) ks.length cap ∧ w.cell? ⟨g, j, none⟩ = some (.string ks[j]) ∧ w.frozen? ⟨g, j, none⟩ = false := by
  obtain ⟨g, cap, cur, e, _, hB, -⟩ := own_blk h (by omega)
  subst e
  have hh : w.ownsRow base 9 1 (.slice (some ⟨g, 0, none⟩) ks.length cap) ks.length (scs ks) := h
  refine ⟨g, cap, rfl, ?_, Blk.frozen hB j⟩
  rw [hh.cellAt _ (by omega)]
  simp [scs, hj]
theorem OwnS.form {base : Nat} {w : World} {v : Value} {ks : List ByteArray} (h : OwnS base w v ks) : ∃ A c, v = .slice A ks.length c := own_formN h
theorem OwnS.swap {base g cap : Nat} {w : World} {ks : List ByteArray} (h : OwnS base w (.slice (some ⟨g, 0, none⟩) ks.length cap) ks) (i j : Nat) (hi : i < ks.length) (hj : j < ks.length) :
    OwnS base ((w.setCell ⟨g, i, none⟩ (.string ks[j])).setCell ⟨g, j, none⟩ (.string ks[i])) (.slice (some ⟨g, 0, none⟩) ks.length cap) ((ks.set i ks[j]).set j ks[i]) := by
  have h' : w.ownsRow base 9 1 (.slice (some ⟨g, 0, none⟩) ks.length cap) ks.length (scs ks) := h
  have h1 := ((h'.stored i (.string ks[j])).1.stored j (.string ks[i])).1
  unfold OwnS
  rw [List.length_set, List.length_set]
  have e : scs ((ks.set i ks[j]).set j ks[i]) = ((scs ks).set i (.string ks[j])).set j (.string ks[i]) := by
    unfold scs
    rw [List.map_set, List.map_set]
  rw [e]; exact h1
theorem swap_mem {α : Type} {ks : List α} {i j : Nat} (hi : i < ks.length) (hj : j < ks.length) (k : α) : k ∈ (ks.set i ks[j]).set j ks[i] ↔ k ∈ ks := by
  constructor
  · intro h
    rcases List.mem_or_eq_of_mem_set h with h | rfl
    · rcases List.mem_or_eq_of_mem_set h with h | rfl
      · exact h
      · exact List.getElem_mem _
    · exact List.getElem_mem _
  · intro h
    obtain ⟨n, hn, e⟩ := List.getElem_of_mem h
    by_cases h1 : n = i
    · subst h1
      rw [List.mem_iff_getElem]
      exact ⟨j, by simpa using hj, by rw [List.getElem_set_self]; exact e⟩
    · by_cases h2 : n = j
      · subst h2
        rw [List.mem_iff_getElem]
        exact ⟨i, by simpa using hi, by rw [List.getElem_set_ne (by omega), List.getElem_set_self]; exact e⟩
      · rw [List.mem_iff_getElem]
        exact ⟨n, by simpa using hn, by rw [List.getElem_set_ne (by omega), List.getElem_set_ne (by omega)]; exact e⟩
theorem drop_key_mem {ps : List Pr} {k : ByteArray} {p : Pr} : p ∈ dropK ps k ↔ p ∈ ps ∧ p.1 ≠ k := drop_mem _ _ _
/-- a trie that stands, where a block of another kind is written -/
theorem NdV.noTy {base : Nat} {w : World} {b : Nat} {o : Value} {bk : Bool} {d nn : Nat} {pv kv : Value} {xs : List Pr} {ks : List Nat} (h : NdV base w b o bk d nn pv kv xs ks) {g : Nat} {cs : Array Value} {t : TypeId} (hb : Blk w g t cs) (h1 : t ≠ 100) (h2 : t ≠ 52) (h3 : t ≠ 29) : ∀ x ∈ foot b pv kv, x ≠ g := by
  rintro x hx rfl
  simp only [foot, List.mem_cons, List.mem_append, Option.mem_toList] at hx
  unfold Blk at hb
  rcases hx with rfl | e | e
  · have := h.blk; unfold Blk at this; rw [this] at hb; simp at hb; exact h1 hb.2.symm
  · obtain ⟨cur, hc⟩ := own_cells h.prs x e; rw [hc] at hb; simp at hb; exact h2 hb.2.symm
  · obtain ⟨cur, hc⟩ := own_cells h.kds x e; rw [hc] at hb; simp at hb; exact h3 hb.2.symm
theorem TV.noTy {w : World} {ow : Option Nat} {lo : Bool} (h : TV w ow lo) {g : Nat} {cs : Array Value} {t : TypeId} (hb : Blk w g t cs) (h4 : t ≠ 107) : ow ≠ some g := by
  rintro rfl
  rcases h with ⟨h, _⟩ | ⟨t', p, id, e, h⟩
  · cases h
  · cases e
    unfold Tok at h
    unfold Blk at h hb
    rw [h] at hb; simp at hb; exact h4 hb.2.symm
theorem TV.old {w : World} {t : Nat} {lo : Bool} (h : TV w (some t) lo) : t < w.heap.size := by
  rcases h with ⟨h, _⟩ | ⟨t', p, id, e, h⟩
  · cases h
  · cases e
    exact blk_lt h
theorem Trie.away {H : ByteArray → Nat} {base : Nat} {w : World} {g : Nat} {cs : Array Value} {t : TypeId} (hb : Blk w g t cs) (h1 : t ≠ 100) (h2 : t ≠ 52) (h3 : t ≠ 29) (h4 : t ≠ 107) : ∀ (n l b : Nat) (ps : List Pr) (F : Nat → Prop), Trie H (fun _ => False) none false base w n l b ps F → Trie H (fun x => x = g) none false base w n l b ps (fun _ => False)
  | 0, l, b, ps, F, h => by
    obtain ⟨ow, pv, kv, lo, hB, hv, hN⟩ := h
    exact ⟨ow, pv, kv, lo, hB, ⟨hv.tv, fun t e h => hv.tv.noTy hb h4 (by rw [e, h])⟩, fun e => by simp [ownB] at e, fun _ => ⟨fun x hx => hB.1.noTy hb h1 h2 h3 x hx, fun _ h => h, fun _ _ _ h => h⟩⟩
  | n + 1, l, b, ps, F, h => by
    obtain ⟨ow, pv, kv, lo, S, Fs, hI, hv, hN, hS⟩ := h
    refine ⟨ow, pv, kv, lo, S, fun _ _ => False, hI, ⟨hv.tv, fun t e h => hv.tv.noTy hb h4 (by rw [e, h])⟩, ⟨fun e => by simp [ownB] at e, fun _ => ⟨fun x hx => ?_, fun _ h => h, fun _ _ _ h => h⟩⟩, fun c hc => ?_⟩
    · obtain ⟨d, nn, hN', -, -⟩ := hI
      exact hN'.noTy hb h1 h2 h3 x hx
    have := hS c hc
    unfold SlotIs at this ⊢
    cases hs : S c with
    | no => rw [hs] at this; exact ⟨this.1, fun _ h => h⟩
    | pr p => rw [hs] at this; exact ⟨this.1, fun _ h => h⟩
    | kd k => rw [hs] at this; exact ⟨this.1, Trie.away hb h1 h2 h3 h4 n (l + 1) k _ _ this.2⟩
theorem TP.apart {k0 k1 m : Int} {base : Nat} {w w' : World} {b : Nat} {ps : List Pr} (h : TP k0 k1 m base w b ps) {g : Nat} {cs : Array Value} {t : TypeId} (hb : Blk w g t cs) (h1 : t ≠ 100) (h2 : t ≠ 52) (h3 : t ≠ 29) (h4 : t ≠ 107) (hk : Keep [g] w w') : TP k0 k1 m base w' b ps := by
  have hK : KeepF (fun x => x = g) w w' := (KeepF.ofKeep hk).mono fun x hx => .inl (by simpa using hx)
  have hT : ∀ t' l, TV w t' l → TV w' t' l := fun t' l hv => hv.keepF hK fun x hx cs' hB => by
    subst hx
    unfold Blk at hb hB
    rw [hb] at hB
    simp at hB
    exact h4 hB.2
  exact Trie.forget _ _ _ _ _ (Trie.keep hT 13 0 b ps _ (fun x => x = g) (Trie.away hb h1 h2 h3 h4 13 0 b ps _ h) hK (fun _ _ h => h) (fun _ h => h)) none
theorem OwnR.below' {base : Nat} {w w' : World} {v : Value} {xs : List Pr} (h : OwnR base w v xs) (hb : Below w.heap.size w w') : OwnR base w' v xs := own_keep h (Keep.of_below (X := []) hb) (by simp)
theorem OwnR.nil (base : Nat) (w : World) : OwnR base w (.slice none 0 0) [] := ⟨rfl, .inl ⟨rfl, rfl⟩⟩
theorem Keep.two (w : World) (g i j : Nat) (u v : Value) : Keep [g] w ((w.setCell ⟨g, i, none⟩ u).setCell ⟨g, j, none⟩ v) := ((Keep.refl [g] w).setCell (p := ⟨g, i, none⟩) (by simp) u).setCell (p := ⟨g, j, none⟩) (by simp) v
end Go.Proofs.YtchimfgbdfmegaaGreat
/- What the reference's trees look like: Of. -/
namespace Go.Proofs.YtchimfgbdfmegaaGreat
open Go.RowKit Go.Lib
set_option linter.unusedVariables false
set_option linter.unusedSimpArgs false
set_option maxRecDepth 100000
attribute [local irreducible] cnt
theorem info55 : (Tryz.prog.info? 55).map (fun i => (i.zero, i.size, i.bytes)) = some (some (.agg #[.string ByteArray.empty, .string ByteArray.empty]), 2, 32) := by kernel_rfl
/-- a row of bytes is appended to a row of one's own -/
theorem wpList_appB {ops : Array Oper} {rest : List Oper} {o : Oper} {a : Act} {Q : Exit → Act → World → Prop} (w : World) (hgd : o.guard = none) (sl x : Operand)
    (ho : o.op = .call { callee := .builtin .append, args := #[sl, x], argTypes := #[34, 34] }) (base base' : Nat) (v v' : Value) (L M : List Nat) (hs : a.eval sl = v) (hx : a.eval x = v') (hv : OwnB base w v L) (hv' : OwnB base' w v' M) (hl : L.length + M.length ≤ 10000000000) (hb : base ≤ w.heap.size)
    (h : ∀ u w', OwnB base w' u (L ++ M) → w.grownBy w' v.ownBlock → wpList Tryz.prog ops Q rest (a.put o.dst u) w') : wpList Tryz.prog ops Q (o :: rest) a w := by
  obtain ⟨i5, hi5, hy50, hy51, hy52⟩ := info_parts info5
  rcases hv'.2 with ⟨h1, h0⟩ | ⟨g, cap, cur, rfl, _⟩
  · have : M = [] := List.length_eq_zero_iff.1 h0
    subst this
    subst h1
    refine wpList_append_own_none hgd sl x 34 ho base 5 i5 1 Tryz.underlying34 hi5 v L.length (ubs L) hs hv hx ?_
    exact h v w (by rw [List.append_nil]; exact hv) ⟨rfl, rfl, rfl, Nat.le_refl _, fun _ _ _ => rfl⟩
  · refine wpList_append_own_at w hgd sl x 34 ho base 5 i5 _ 1 1 Tryz.underlying34 hi5 hy50 hy51 hy52 zsz_u8 (by decide) v L.length (ubs L) hs hv ⟨g, 0, none⟩ M.length cap (ubs M) hx (by rw [ubs_len]; omega) (World.ownsRow.cells (show World.ownsRow _ _ _ _ _ _ _ from hv') rfl) ubs_one (by unfold maxLen; omega) (by omega) hb ?_
    intro u w' hown hg _ _
    refine h u w' ?_ hg
    unfold OwnB
    rw [List.length_append, ubs_app]
    exact hown
theorem OwnB.otherR {base base' n e : Nat} {w w' : World} {v u : Value} {xs : List Value} {sz : Nat} {L : List Nat} (h : OwnB base w v L) (hr : w.ownsRow base' e sz u n xs) (he : e ≠ 5) (hg : w.grownBy w' u.ownBlock) : OwnB base w' v L := own_keep h (own_grow w w' hg) fun x hx e' => by
  obtain ⟨c1, h1⟩ := own_cells h x e'
  obtain ⟨c2, h2⟩ := own_cells hr x (by simpa using hx)
  rw [h1] at h2; simp at h2; exact he h2.2.symm
set_option maxHeartbeats 32000000 in
theorem refOf_inner (d l b : Nat) (P : Nat → Option Pr) (K : Nat → RT) (w : World) (hl : d + 1 + l = 14) (hr : RfR w (.inner P K) b) (hf : FairR (.inner P K)) (hL : (encR (d + 1) (.inner P K)).length ≤ 1000000000)
    (IH : ∀ (t : RT) (b : Nat) (w : World), RfR w t b → FairR t → (encR d t).length ≤ 1000000000 → 1 ≤ d → Calls Tryz.prog 12 #[.pointer (some ⟨b, 0, none⟩), .int .i64 ((l + 1 : Nat) : Int)] w (MadeB (encR d t) w)) :
    Calls Tryz.prog 12 #[.pointer (some ⟨b, 0, none⟩), .int .i64 l] w (MadeB (encR (d + 1) (.inner P K)) w) := by
  obtain ⟨i5, hi5, hy50, hy51, hy52⟩ := info_parts info5
  obtain ⟨i55, hi55, hy550, hy551, hy552⟩ := info_parts info55
  rw [encR_parts] at hL ⊢
  simp only [headR, prsR, kidsOf, List.length_append, List.length_cons, fourB_len] at hL
  have HF := Lib.hid hf
  have HIH := Lib.hid IH
  obtain ⟨f, hRB, hf0, hsl⟩ := hr
  have HS := Lib.hid hsl
  have HR := Lib.hid hRB
  have z0 := hRB.cell 0 (by omega)
  rw [hf0] at z0
  clear IH hf hsl hf0 hRB
  go_enter Tryz.func12, Tryz.ntmps12
  go_wp2_with fail
  go_loopw [5, 6, 7, 8, 9, 10] (fun v5 v6 v7 v8 v9 v10 wr => ∃ c : Nat, c ≤ 32 ∧ v10 = .int .i64 c ∧ v5 = .int .u32 (maskTo (fun c => (P c).isSome) c : Nat) ∧ v6 = .int .u32 (maskTo (fun c => (K c).opt.isSome) c : Nat) ∧ v9 = .int .u32 (bitv c : Nat) ∧ OwnR w.heap.size wr v7 (fm P c) ∧ OwnB w.heap.size wr v8 ((fm (fun c => (K c).opt) c).flatMap (encR d)) ∧ Below w.heap.size w wr) (fun v5 v6 v7 v8 v9 v10 wr => 32 - (intOf v10).toNat)
  case atStart => exact ⟨0, by omega, rfl, rfl, rfl, rfl, ⟨rfl, .inl ⟨rfl, rfl⟩⟩, OwnB.nil _ _, Below.refl _ _⟩
  case round =>
    clear z0
    obtain ⟨c, hc, rfl, rfl, rfl, rfl, hOp, hOk, hB⟩ := hrel
    by_cases hlt : c < 32
    · have L1 : (c : Int) < 32 := by omega
      have L2 : IntKind.i64.wrap ((c : Int) + 1) = ((c + 1 : Nat) : Int) := by rw [IntWalk.i64_in _ (by omega)]; omega
      have L3 : IntKind.u32.wrap ((bitv c : Int) * 2) = ((bitv (c + 1) : Nat) : Int) := by
        have := wrap_u32 (bitv c * 2)
        rw [bit_next hlt] at this
        push_cast at this
        exact this
      have hRB := HR.out.below hB
      have y2 := hRB.cell (2 + c) (by omega)
      rcases HS.out c hlt with ⟨hP, hK, h2⟩ | ⟨p, hP, hK, h2, h3, h4⟩ | ⟨hP, kb, hK, h2, h3, hT⟩
      · rw [h2] at y2
        have e1 := Lib.hid (fm_nope hP)
        have e2 := Lib.hid (mask_no (f := fun c => (P c).isSome) (c := c) (by simp [hP]))
        have e3 := Lib.hid (fm_nope (f := fun c => (K c).opt) hK)
        have e4 := Lib.hid (mask_no (f := fun c => (K c).opt.isSome) (c := c) (by simp [hK]))
        clear hRB hP hK h2
        generalize bitv c = bt at *
        go_wp2_with fail
        refine ⟨⟨c + 1, by omega, by go_num, by rw [e2.out], by rw [e4.out], rfl, by rw [e1.out]; exact hOp, by rw [e3.out]; exact hOk, hB⟩, by simp [intOf]; omega⟩
      · rw [h2] at y2
        have y3 := hRB.cell (34 + c * 2) (by omega)
        have y4 := hRB.cell (34 + c * 2 + 1) (by omega)
        rw [h3] at y3
        rw [h4] at y4
        have e1 := Lib.hid (fm_yes hP)
        have e2 := Lib.hid (mask_yes (f := fun c => (P c).isSome) hlt (by simp [hP]))
        have e3 := Lib.hid (fm_nope (f := fun c => (K c).opt) hK)
        have e4 := Lib.hid (mask_no (f := fun c => (K c).opt.isSome) (c := c) (by simp [hK]))
        have L4 : IntKind.u32.wrap ((maskTo (fun c => (P c).isSome) c : Int) + (bitv c : Int)) = ((maskTo (fun c => (P c).isSome) c + bitv c : Nat) : Int) := by
          have := wrap_u32 (maskTo (fun c => (P c).isSome) c + bitv c)
          rw [← e2.out, Nat.mod_eq_of_lt (Nat.lt_of_lt_of_le (maskTo_lt _ (c + 1)) (Nat.pow_le_pow_right (by decide) (by omega : c + 1 ≤ 32))), e2.out] at this
          push_cast at this ⊢
          exact this
        have hpl : (fm P c).length ≤ 32 := Nat.le_trans (fm_len_le P c) hc
        have hBl := (Below.refl _ wr).alloc (Nat.le_refl _) (.cells #[.string p.1, .string p.2] 55)
        have hrow : (wr.alloc (.cells #[.string p.1, .string p.2] 55)).ownsRow w.heap.size 55 2 u7 (fm P c).length (flat (fm P c)) := hOp.below' hBl
        have hnb : (wr.alloc (.cells #[.string p.1, .string p.2] 55)).heap[wr.heap.size]? = some (.cells #[.string p.1, .string p.2] 55 (0, 0)) := heap_alloc_new wr _
        have HOk := Lib.hid (hOk.below hBl)
        have hsz := Nat.le_trans hB.size hBl.size
        have HB := Lib.hid (hB.trans (hBl.mono hB.size))
        have HY := Lib.hid (fun (wa : World) (hg : (wr.alloc (.cells #[.string p.1, .string p.2] 55)).grownBy wa u7.ownBlock) => (by
          have h := HR.out.below (HB.out.grown hg hsz (own_ge hrow))
          have := h.cell (2 + c) (by omega)
          rw [h2] at this
          exact this : wa.cell? ⟨b, 2 + c, none⟩ = some (.int .i64 1)))
        clear hRB hP hK h2 h3 h4 hOp hOk hB hBl
        generalize maskTo (fun c => (P c).isSome) c = D at *
        generalize bitv c = bt at *
        go_wp2_with (at_builtin; refine wpList_append_own_at _ rfl _ _ 30 rfl w.heap.size 55 i55 _ 2 32 Tryz.underlying30 hi55 hy550 hy551 hy552 zsz_pair (by decide) _ _ _ rfl hrow ⟨wr.heap.size, 0, none⟩ 1 1 [.string p.1, .string p.2] rfl rfl (World.news_of_block hnb) (by simp [Value.oneCell']) (by unfold maxLen; omega) (by omega) hsz ?_; intro v' wa hown' hgrow hnil hat; have y2w := HY.out wa hgrow)
        replace hgrow : (wr.alloc (.cells #[.string p.1, .string p.2] 55)).grownBy wa u7.ownBlock := hgrow
        refine ⟨⟨c + 1, by omega, by go_num, by rw [e2.out]; push_cast; rfl, by rw [e4.out], rfl, ?_, ?_, HB.out.grown hgrow hsz (own_ge hrow)⟩, by simp [intOf]; omega⟩
        · rw [e1.out]; exact OwnR.snoc hown'
        · rw [e3.out]; exact HOk.out.otherR hrow (by decide) hgrow
      · rw [h2] at y2
        have y5 := hRB.cell (98 + c) (by omega)
        rw [h3] at y5
        unfold at0 at y5
        have e1 := Lib.hid (fm_nope hP)
        have e2 := Lib.hid (mask_no (f := fun c => (P c).isSome) (c := c) (by simp [hP]))
        have e3 := Lib.hid (fm_yes (f := fun c => (K c).opt) hK)
        have e4 := Lib.hid (mask_yes (f := fun c => (K c).opt.isSome) hlt (by simp [hK]))
        have L4 : IntKind.u32.wrap ((maskTo (fun c => (K c).opt.isSome) c : Int) + (bitv c : Int)) = ((maskTo (fun c => (K c).opt.isSome) c + bitv c : Nat) : Int) := by
          have := wrap_u32 (maskTo (fun c => (K c).opt.isSome) c + bitv c)
          rw [← e4.out, Nat.mod_eq_of_lt (Nat.lt_of_lt_of_le (maskTo_lt _ (c + 1)) (Nat.pow_le_pow_right (by decide) (by omega : c + 1 ≤ 32))), e4.out] at this
          push_cast at this ⊢
          exact this
        have hpre := flat_prefix (fun c => (K c).opt) (encR d) (c + 1) (by omega)
        rw [e3.out, List.flatMap_append, List.length_append] at hpre
        simp only [List.flatMap_cons, List.flatMap_nil, List.append_nil] at hpre
        have hpre2 : ((fm (fun c => (K c).opt) 32).flatMap (encR d)).length ≤ 1000000000 := by unfold kidsR at hL; omega
        have e5 := Lib.hid (show (fm (fun c => (K c).opt) (c + 1)).flatMap (encR d) = (fm (fun c => (K c).opt) c).flatMap (encR d) ++ encR d (K c) by rw [e3.out, List.flatMap_append]; simp)
        have HT := Lib.hid hT
        generalize maskTo (fun c => (K c).opt.isSome) c = D at *
        generalize bitv c = bt at *
        clear hRB hP hK h2 h3 hT
        by_cases hd : 1 ≤ d
        · have L5 : (l : Int) < 13 := by omega
          have L6 : IntKind.i64.wrap ((l : Int) + 1) = ((l + 1 : Nat) : Int) := by rw [IntWalk.i64_in _ (by omega)]; omega
          have ki := HIH.out (K c) kb wr (RfR.below hB _ _ HT.out) ((HF.out.2 c hlt)) (by omega) hd
          generalize encR d (K c) = EK at *
          generalize (fm (fun c => (K c).opt) c).flatMap (encR d) = E0 at *
          go_wp2_with fail
          refine ki.mono ?_
          rintro e w5 ⟨v5, rfl, ho5, hB5⟩
          have hOk := hOk.below hB5
          have HOp := Lib.hid (hOp.below' hB5)
          have hsz := Nat.le_trans hB.size hB5.size
          have HB := Lib.hid (hB.trans (hB5.mono hB.size))
          clear ki hB hB5 hOp y2 y5
          go_wp2_with (at_builtin; refine wpList_appB _ rfl _ _ rfl w.heap.size wr.heap.size _ _ E0 EK rfl rfl hOk ho5 (by omega) hsz ?_; intro v' wa hown' hgrow)
          replace hgrow : w5.grownBy wa u8.ownBlock := hgrow
          refine ⟨⟨c + 1, by omega, by go_num, by rw [e2.out], by rw [e4.out]; push_cast; rfl, rfl, ?_, ?_, HB.out.grown hgrow hsz (own_ge hOk)⟩, by simp [intOf]; omega⟩
          · rw [e1.out]; exact own_keep HOp.out (own_grow _ _ hgrow) fun x hx e' => by
              obtain ⟨c1, h1⟩ := own_cells HOp.out x e'
              obtain ⟨c2, h2⟩ := own_cells hOk x (by simpa using hx)
              rw [h1] at h2; simp at h2
          · rw [e5.out]; exact hown'
        · obtain rfl : d = 0 := by omega
          have L5 : ¬ ((l : Int) < 13) := by omega
          go_wp2_with fail
          refine ⟨⟨c + 1, by omega, by go_num, by rw [e2.out], by rw [e4.out]; push_cast; rfl, rfl, by rw [e1.out]; exact hOp, ?_, hB⟩, by simp [intOf]; omega⟩
          rw [e5.out]
          simpa [encR] using hOk
    · obtain rfl : c = 32 := by omega
      have e5 : (fm (fun c => (K c).opt) 32).flatMap (encR d) = (kidsR K).flatMap (encR d) := rfl
      have e2 : maskTo (fun c => (P c).isSome) 32 = dataR P := rfl
      have e4 : maskTo (fun c => (K c).opt.isSome) 32 = nodesR K := rfl
      rw [e5] at hOk
      rw [e2, e4]
      have hps : ∀ p ∈ fm P 32, p.1.size ≤ 1000000 ∧ p.2.size ≤ 1000000 := fun p hp => by
        obtain ⟨c, _, e⟩ := fm_mem.1 hp
        exact HF.out.1 c p e
      have hpl : (fm P 32).length ≤ 32 := fm_len_le P 32
      have Hps := Lib.hid hps
      have hdl := dataR_lt P
      have hnl := nodesR_lt K
      obtain ⟨A7, c7, rfl, -⟩ := hOp.rd
      have HOp := Lib.hid hOp
      have HOk := Lib.hid hOk
      have HB := Lib.hid hB
      generalize hps' : fm P 32 = ps at *
      generalize hEK : (kidsR K).flatMap (encR d) = EK at *
      generalize hDD : dataR P = DD at *
      generalize hNN : nodesR K = NN at *
      have HE := Lib.hid (⟨hDD, hNN, hps', hEK⟩ : dataR P = DD ∧ nodesR K = NN ∧ fm P 32 = ps ∧ (kidsR K).flatMap (encR d) = EK)
      clear hps' hEK hDD hNN
      clear hOp hOk hB e5 e2 e4 hps
      have hB0 := (Below.refl _ wr).alloc (Nat.le_refl _) (.cells #[.int .u8 0] 5)
      have hO0 : OwnB wr.heap.size (wr.alloc (.cells #[.int .u8 0] 5)) (.slice (some ⟨wr.heap.size, 0, none⟩) 1 1) [0] := OwnB.new (Nat.le_refl _) rfl (by unfold maxLen; omega) rfl
      go_wp2_with fail
      refine (refFour_any DD _ hdl).mono ?_
      rintro e w1 ⟨v1, rfl, ho1, hB1⟩
      have hOa := hO0.below hB1
      have hBa := hB0.trans (hB1.mono hB0.size)
      clear hO0 hB1 hB0
      go_wp2_with (at_builtin; refine wpList_appB _ rfl _ _ rfl wr.heap.size _ _ _ [0] (fourB DD) rfl rfl hOa ho1 (by simp [fourB_len]) hBa.size ?_; intro v2 wa hO2 hg2)
      replace hg2 : w1.grownBy wa (Value.slice (some ⟨wr.heap.size, 0, none⟩) 1 1).ownBlock := hg2
      have hB2 := hBa.grown hg2 hBa.size (own_ge hOa)
      clear hOa hBa hg2 ho1
      refine (refFour_any NN wa hnl).mono ?_
      rintro e w2 ⟨v3, rfl, ho3, hB3⟩
      have hOb := hO2.below hB3
      have hBb := hB2.trans (hB3.mono hB2.size)
      clear hO2 hB2 hB3
      go_wp2_with (at_builtin; refine wpList_appB _ rfl _ _ rfl wr.heap.size _ _ _ ([0] ++ fourB DD) (fourB NN) rfl rfl hOb ho3 (by simp [fourB_len]) hBb.size ?_; intro v4 wb hO4 hg4)
      replace hg4 : w2.grownBy wb v2.ownBlock := hg4
      have hB4 := hBb.grown hg4 hBb.size (own_ge hOb)
      clear hOb hBb hg4 ho3
      have hRd : Rd wb A7 ps := by
        obtain ⟨A', c', e', hr'⟩ := OwnR.rd (HOp.out.below' hB4)
        simp only [Value.slice.injEq] at e'
        obtain ⟨rfl, -⟩ := e'
        exact hr'
      refine (refPairs_any A7 c7 ps wb hRd (by omega) Hps.out).mono ?_
      rintro e w3 ⟨v5, rfl, ho5, hB5⟩
      have hOc := hO4.below hB5
      have hBc := hB4.trans (hB5.mono hB4.size)
      clear hO4 hB4 hB5 hRd
      have hl5 : ([0] ++ fourB DD ++ fourB NN).length = 9 := by simp [fourB_len]
      go_upto_region 21 with (at_builtin; refine wpList_appB _ rfl _ _ rfl wr.heap.size _ _ _ ([0] ++ fourB DD ++ fourB NN) (pairsB ps) rfl rfl hOc ho5 (by rw [hl5]; omega) hBc.size ?_; intro v6 wc hO6 hg6)
      replace hg6 : w3.grownBy wc v4.ownBlock := hg6
      have hB6 := hBc.grown hg6 hBc.size (own_ge hOc)
      have hK6 := HOk.out.below hB6
      clear hOc hBc hg6 ho5
      go_wp2_with (at_builtin; refine wpList_appB _ rfl _ _ rfl wr.heap.size _ _ _ ([0] ++ fourB DD ++ fourB NN ++ pairsB ps) EK rfl rfl hO6 hK6 (by rw [List.length_append, hl5]; omega) hB6.size ?_; intro v8 wd hO8 hg8)
      replace hg8 : wc.grownBy wd v6.ownBlock := hg8
      have hB8 := hB6.grown hg8 hB6.size (own_ge hO6)
      go_ret
      refine ⟨_, rfl, ?_, HB.out.trans (hB8.mono HB.out.size)⟩
      have e1 : headR (RT.inner P K) ++ (pairsB (prsR (RT.inner P K)) ++ (kidsOf (RT.inner P K)).flatMap (encR d)) = [0] ++ fourB DD ++ fourB NN ++ pairsB ps ++ EK := by
        simp only [headR, prsR, kidsOf]
        rw [HE.out.1, HE.out.2.1, HE.out.2.2.1, HE.out.2.2.2]
        simp
      rw [e1]
      refine ⟨hO8.1, ?_⟩
      rcases hO8.2 with h | ⟨g, cap, cur, h1, h2, h3⟩
      · exact .inl h
      · exact .inr ⟨g, cap, cur, h1, Nat.le_trans HB.out.size h2, h3⟩
end Go.Proofs.YtchimfgbdfmegaaGreat
/- What the reference's trees look like: Of, whole. -/
namespace Go.Proofs.YtchimfgbdfmegaaGreat
open Go.RowKit Go.Lib
set_option linter.unusedVariables false
set_option linter.unusedSimpArgs false
set_option maxRecDepth 100000
attribute [local irreducible] cnt
theorem wp_appB {o : Oper} {a : Act} {w : World} {K : Act → World → Prop} {Q : Exit → Act → World → Prop} (sl x : Operand)
    (ho : o.op = .call { callee := .builtin .append, args := #[sl, x], argTypes := #[34, 34] }) (base base' : Nat) (v v' : Value) (L M : List Nat) (hs : a.eval sl = v) (hx : a.eval x = v') (hv : OwnB base w v L) (hv' : OwnB base' w v' M) (hl : L.length + M.length ≤ 10000000000) (hb : base ≤ w.heap.size)
    (h : ∀ u w', OwnB base w' u (L ++ M) → w.grownBy w' v.ownBlock → K (a.put o.dst u) w') : o.wp Tryz.prog a w K Q := by
  obtain ⟨i5, hi5, hy50, hy51, hy52⟩ := info_parts info5
  rcases hv'.2 with ⟨h1, h0⟩ | ⟨g, cap, cur, rfl, _⟩
  · have : M = [] := List.length_eq_zero_iff.1 h0
    subst this
    subst h1
    have hrun := run_append_owned_none (P := Tryz.prog) (w := w) base 34 o.type 5 i5 1 Tryz.underlying34 hi5 v L.length (ubs L) hv
    unfold Oper.wp
    simp [execOp, ho, resolve, invoke, builtin, hs, hx, hrun, Result.andThen]
    exact h v w (by rw [List.append_nil]; exact hv) ⟨rfl, rfl, rfl, Nat.le_refl _, fun _ _ _ => rfl⟩
  · obtain ⟨u, w', hr, h2, h3, -, -⟩ := run_append_own_at (P := Tryz.prog) w base 34 o.type 5 i5 _ 1 1 Tryz.underlying34 hi5 hy50 hy51 hy52 zsz_u8 (by decide) v L.length (ubs L) hv ⟨g, 0, none⟩ M.length cap (ubs M) (by rw [ubs_len]; omega) (World.ownsRow.cells (show World.ownsRow _ _ _ _ _ _ _ from hv') rfl) ubs_one (by unfold maxLen; omega) (by omega) hb
    unfold Oper.wp execOp
    simp only [ho, resolve, invoke, builtin, Sem.run_bind, Sem.run_pure, Result.andThen_ok, List.map_toArray, List.map_cons, List.map_nil, hs, hx, hr]
    refine h u w' ?_ h3
    unfold OwnB
    rw [List.length_append, ubs_app]
    exact h2
theorem step_appB {ops : Array Oper} {o : Oper} {a : Act} {w : World} {K : Act → World → Prop} {Q : Exit → Act → World → Prop} {E : Prop} (hgd : o.guard = none) (sl x : Operand)
    (ho : o.op = .call { callee := .builtin .append, args := #[sl, x], argTypes := #[34, 34] }) (base base' : Nat) (v v' : Value) (L M : List Nat) (hs : a.eval sl = v) (hx : a.eval x = v') (hv : OwnB base w v L) (hv' : OwnB base' w v' M) (hl : L.length + M.length ≤ 10000000000) (hb : base ≤ w.heap.size)
    (h : ∀ u w', OwnB base w' u (L ++ M) → w.grownBy w' v.ownBlock → K (a.put o.dst u) w') : if Region.wanted o (yielded ops a.tmps) = true then Oper.wp Tryz.prog o a w K Q else E := by
  have hw : Region.wanted o (yielded ops a.tmps) = true := by simp [Region.wanted, hgd]
  rw [if_pos hw]
  exact wp_appB sl x ho base base' v v' L M hs hx hv hv' hl hb h
theorem own_base {b b' : Nat} {w : World} {v : Value} {L : List Nat} (h : OwnB b w v L) (hb : b' ≤ b) : OwnB b' w v L := by
  refine ⟨h.1, ?_⟩
  rcases h.2 with h1 | ⟨g, cap, cur, h1, h2, h3⟩
  · exact .inl h1
  · exact .inr ⟨g, cap, cur, h1, Nat.le_trans hb h2, h3⟩
set_option maxHeartbeats 16000000 in
theorem refOf_bucket (d l b : Nat) (L : List Pr) (w : World) (hr : RfR w (.bucket L) b) (hf : FairR (.bucket L)) (hL : (encR (d + 1) (.bucket L)).length ≤ 1000000000) :
    Calls Tryz.prog 12 #[.pointer (some ⟨b, 0, none⟩), .int .i64 l] w (MadeB (encR (d + 1) (.bucket L)) w) := by
  obtain ⟨f, A, c, hRB, hf0, hf1, hRd⟩ := hr
  have z0 := hRB.cell 0 (by omega)
  have z1 := hRB.cell 1 (by omega)
  rw [hf0] at z0
  rw [hf1] at z1
  have hpb : (pairsB L).length ≤ 1000000000 := by simp only [encR, List.length_cons, List.length_append] at hL; omega
  have hln : L.length ≤ 800 := hf.1
  have hRB := Lib.hid hRB
  have hf1 := Lib.hid hf1
  have hRd := Lib.hid hRd
  clear hf0 hL
  go_enter Tryz.func12, Tryz.ntmps12
  go_upto_region 2 with (fail)
  have hS0 : (fun w' : World => w'.cell? ⟨b, 1, none⟩ = some (.slice A L.length c)) w.drew := z1
  have hdr : Below w.heap.size w w.drew := (Below.refl _ w).drew
  have hB := hdr
  have hBw := Lib.hid hdr.size
  clear z0 z1 hdr
  refine wp_region_held_drew (S := fun w' : World => w'.cell? ⟨b, 1, none⟩ = some (.slice A L.length c)) (by kernel_rfl) hS0 ?_
  intro hS
  refine wpAnyH_take (i := 1) (oi := { dst := some 17, op := Go.Op.move (Go.Operand.tmp 0), type := 37, pos := "ref.go:31", after := #[], guard := none }) (v := .pointer (some ⟨b, 0, none⟩)) rfl (by kernel_rfl) (by kernel_rfl) (by kernel_rfl) (fun _ _ _ h => h) (Or.inl ⟨by rfl, fun w hSw => ?_⟩) hS ?_
  · go_split_ands
    go_simp
  try simp only [Act.put, List.setIfInBounds_toArray, List.set_cons_zero, List.set_cons_succ]
  refine wpAnyH_take (i := 2) (oi := { dst := some 18, op := Go.Op.nilCheck (Go.Operand.tmp 17), type := 0, pos := "ref.go:31", after := #[{ on := 1, ground := Go.Ground.data }], guard := none }) (v := .pointer (some ⟨b, 0, none⟩)) rfl (by kernel_rfl) (by kernel_rfl) (by kernel_rfl) (fun _ _ _ h => h) (Or.inl ⟨by rfl, fun w hSw => ?_⟩) hS ?_
  · go_split_ands
    go_simp
  try simp only [Act.put, List.setIfInBounds_toArray, List.set_cons_zero, List.set_cons_succ]
  refine wpAnyH_take (i := 3) (oi := { dst := some 19, op := Go.Op.fieldAddr 60 (Go.Operand.tmp 18) 1, type := 0, pos := "ref.go:31", after := #[{ on := 2, ground := Go.Ground.data }], guard := none }) (v := .pointer (some ⟨b, 1, none⟩)) rfl (by kernel_rfl) (by kernel_rfl) (by kernel_rfl) (fun _ _ _ h => h) (Or.inl ⟨by rfl, fun w hSw => ?_⟩) hS ?_
  · go_split_ands
    go_simp
  try simp only [Act.put, List.setIfInBounds_toArray, List.set_cons_zero, List.set_cons_succ]
  refine wpAnyH_take (i := 4) (oi := { dst := some 20, op := Go.Op.load 30 (Go.Operand.tmp 19), type := 30, pos := "ref.go:31", after := #[{ on := 3, ground := Go.Ground.data }], guard := none }) (v := .slice A L.length c) rfl (by kernel_rfl) (by kernel_rfl) (by kernel_rfl) (fun _ _ _ h => h) (Or.inl ⟨by rfl, fun w hSw => ?_⟩) hS ?_
  · go_split_ands
    go_simp
  try simp only [Act.put, List.setIfInBounds_toArray, List.set_cons_zero, List.set_cons_succ]
  refine wpAnyH_take (i := 5) (oi := { dst := some 21, op := Go.Op.call { callee := Go.Callee.builtin Go.Builtin.len, args := #[Go.Operand.tmp 20], argTypes := #[30] }, type := 3, pos := "ref.go:31", after := #[{ on := 4, ground := Go.Ground.data }], guard := none }) (v := .int .i64 L.length) rfl (by kernel_rfl) (by kernel_rfl) (by kernel_rfl) (fun _ _ _ h => h) (Or.inl ⟨by rfl, fun w hSw => ?_⟩) hS ?_
  · go_split_ands
    go_simp
  try simp only [Act.put, List.setIfInBounds_toArray, List.set_cons_zero, List.set_cons_succ]
  refine wpAnyH_take (i := 8) (oi := { dst := some 24, op := Go.Op.move (Go.Operand.tmp 0), type := 37, pos := "ref.go:31", after := #[], guard := none }) (v := .pointer (some ⟨b, 0, none⟩)) rfl (by kernel_rfl) (by kernel_rfl) (by kernel_rfl) (fun _ _ _ h => h) (Or.inl ⟨by rfl, fun w hSw => ?_⟩) hS ?_
  · go_split_ands
    go_simp
  try simp only [Act.put, List.setIfInBounds_toArray, List.set_cons_zero, List.set_cons_succ]
  refine wpAnyH_take (i := 9) (oi := { dst := some 25, op := Go.Op.nilCheck (Go.Operand.tmp 24), type := 0, pos := "ref.go:31", after := #[{ on := 8, ground := Go.Ground.data }], guard := none }) (v := .pointer (some ⟨b, 0, none⟩)) rfl (by kernel_rfl) (by kernel_rfl) (by kernel_rfl) (fun _ _ _ h => h) (Or.inl ⟨by rfl, fun w hSw => ?_⟩) hS ?_
  · go_split_ands
    go_simp
  try simp only [Act.put, List.setIfInBounds_toArray, List.set_cons_zero, List.set_cons_succ]
  refine wpAnyH_take (i := 10) (oi := { dst := some 26, op := Go.Op.fieldAddr 60 (Go.Operand.tmp 25) 1, type := 0, pos := "ref.go:31", after := #[{ on := 9, ground := Go.Ground.data }], guard := none }) (v := .pointer (some ⟨b, 1, none⟩)) rfl (by kernel_rfl) (by kernel_rfl) (by kernel_rfl) (fun _ _ _ h => h) (Or.inl ⟨by rfl, fun w hSw => ?_⟩) hS ?_
  · go_split_ands
    go_simp
  try simp only [Act.put, List.setIfInBounds_toArray, List.set_cons_zero, List.set_cons_succ]
  refine wpAnyH_take (i := 11) (oi := { dst := some 27, op := Go.Op.load 30 (Go.Operand.tmp 26), type := 30, pos := "ref.go:31", after := #[{ on := 10, ground := Go.Ground.data }], guard := none }) (v := .slice A L.length c) rfl (by kernel_rfl) (by kernel_rfl) (by kernel_rfl) (fun _ _ _ h => h) (Or.inl ⟨by rfl, fun w hSw => ?_⟩) hS ?_
  · go_split_ands
    go_simp
  try simp only [Act.put, List.setIfInBounds_toArray, List.set_cons_zero, List.set_cons_succ]
  refine wpAnyH_ready (rs := [0, 6]) (by kernel_rfl) (by simp) ?_
  refine AllReadyH.cons (o := { dst := some 16, op := Go.Op.buildSlice 34 1 #[(0, Go.Operand.const (Go.Value.int Go.IntKind.u8 1))], type := 34, pos := "ref.go:31", after := #[], guard := none }) rfl (fun K hK => ?_) (AllReadyH.cons (o := { dst := some 22, op := Go.Op.call { callee := Go.Callee.value (Go.Operand.func 32), args := #[Go.Operand.tmp 21], argTypes := #[3] }, type := 34, pos := "ref.go:31", after := #[{ on := 5, ground := Go.Ground.data }], guard := none }) rfl (fun K hK => ?_) AllReadyH.nil)
  · go_simp
    have hBl : Below w.drew.heap.size w.drew ((w.alloc (.cells #[.int .u8 1] 5)).drew) := (Below.refl _ w.drew).alloc (Nat.le_refl _) (.cells #[.int .u8 1] 5)
    have hO0 : OwnB w.heap.size ((w.alloc (.cells #[.int .u8 1] 5)).drew) (.slice (some ⟨w.heap.size, 0, none⟩) 1 1) [1] := OwnB.new (w := w.drew) (Nat.le_refl _) rfl (by unfold maxLen; omega) rfl
    have hSn : (fun w' : World => w'.cell? ⟨b, 1, none⟩ = some (.slice A L.length c)) ((w.alloc (.cells #[.int .u8 1] 5)).drew) := (hBl.cell (World.block_lt_of_cell? _ _ hS)).trans hS
    have hB : Below w.heap.size w ((w.alloc (.cells #[.int .u8 1] 5)).drew) := hB.trans (hBl.mono hB.size)
    have hBw := Lib.hid hB.size
    refine hK.out _ _ hSn (fun _ => ?_)
    clear hK K hS
    try simp only [Act.put, List.setIfInBounds_toArray, List.set_cons_zero, List.set_cons_succ]
    have hS := hSn
    clear hSn
    clear hBl
    generalize (w.alloc (.cells #[.int .u8 1] 5)).drew = wA at *
    obtain ⟨B0, hB0⟩ : ∃ B0, B0 = w.heap.size := ⟨_, rfl⟩
    refine wpAnyH_ready (rs := [6]) (by kernel_rfl) (by simp) ?_
    refine AllReadyH.cons (o := { dst := some 22, op := Go.Op.call { callee := Go.Callee.value (Go.Operand.func 32), args := #[Go.Operand.tmp 21], argTypes := #[3] }, type := 34, pos := "ref.go:31", after := #[{ on := 5, ground := Go.Ground.data }], guard := none }) rfl (fun K hK => ?_) AllReadyH.nil
    go_simp
    refine (refTwo_any L.length wA (by omega)).mono ?_
    rintro e w2 ⟨v1, rfl, ho1, hB1⟩
    go_wp2_with fail
    have hSn : (fun w' : World => w'.cell? ⟨b, 1, none⟩ = some (.slice A L.length c)) w2 := (hB1.cell (World.block_lt_of_cell? _ _ hS)).trans hS
    have hO0 := hO0.below hB1
    have hBw := Lib.hid (Nat.le_trans hBw.out hB1.size)
    have hB := hB.trans (hB1.mono hB.size)
    refine hK.out _ _ hSn (fun _ => ?_)
    clear hK K hS
    try simp only [Act.put, List.setIfInBounds_toArray, List.set_cons_zero, List.set_cons_succ]
    have hS := hSn
    clear hSn
    clear hB1
    refine wpAnyH_ready (rs := [7]) (by kernel_rfl) (by simp) ?_
    refine AllReadyH.cons (o := { dst := some 23, op := Go.Op.call { callee := Go.Callee.builtin Go.Builtin.append, args := #[Go.Operand.tmp 16, Go.Operand.tmp 22], argTypes := #[34, 34] }, type := 34, pos := "ref.go:31", after := #[{ on := 0, ground := Go.Ground.data }, { on := 6, ground := Go.Ground.data }, { on := 6, ground := Go.Ground.chain }], guard := none }) rfl (fun K hK => ?_) AllReadyH.nil
    refine step_appB (by rfl) _ _ (by rfl) w.heap.size _ _ _ [1] (twoB L.length) (by rfl) (by rfl) hO0 ho1 (by simp [twoB_len]) hB.size ?_
    intro v2 w3 hO2 hg2
    have hB2 := hB.grown hg2 hB.size (own_ge hO0)
    have hSn : (fun w' : World => w'.cell? ⟨b, 1, none⟩ = some (.slice A L.length c)) w3 := by
      have h := (hRB.out.below hB2).cell 1 (by omega)
      rw [hf1.out] at h
      exact h
    refine hK.out _ _ hSn (fun _ => ?_)
    clear hK K hS
    try simp only [Act.put, List.setIfInBounds_toArray, List.set_cons_zero, List.set_cons_succ]
    have hS := hSn
    clear hSn hO0 hg2 ho1
    refine wpAnyH_ready (rs := [12]) (by kernel_rfl) (by simp) ?_
    refine AllReadyH.cons (o := { dst := some 28, op := Go.Op.call { callee := Go.Callee.value (Go.Operand.func 33), args := #[Go.Operand.tmp 27], argTypes := #[30] }, type := 34, pos := "ref.go:31", after := #[{ on := 11, ground := Go.Ground.data }, { on := 7, ground := Go.Ground.chain }], guard := none }) rfl (fun K hK => ?_) AllReadyH.nil
    go_simp
    refine (refPairs_any A c L w3 (hRd.out.below hB2) (by omega) hf.2).mono ?_
    rintro e w4 ⟨v3, rfl, ho3, hB3⟩
    go_wp2_with fail
    have hSn : (fun w' : World => w'.cell? ⟨b, 1, none⟩ = some (.slice A L.length c)) w4 := (hB3.cell (World.block_lt_of_cell? _ _ hS)).trans hS
    have hO2 := hO2.below hB3
    have hB3' := hB2.trans (hB3.mono hB2.size)
    refine hK.out _ _ hSn (fun _ => ?_)
    clear hK K hS
    try simp only [Act.put, List.setIfInBounds_toArray, List.set_cons_zero, List.set_cons_succ]
    have hS := hSn
    clear hSn
    refine wpAnyH_ready (rs := [13]) (by kernel_rfl) (by simp) ?_
    refine AllReadyH.cons (o := { dst := some 29, op := Go.Op.call { callee := Go.Callee.builtin Go.Builtin.append, args := #[Go.Operand.tmp 23, Go.Operand.tmp 28], argTypes := #[34, 34] }, type := 34, pos := "ref.go:31", after := #[{ on := 7, ground := Go.Ground.data }, { on := 12, ground := Go.Ground.data }, { on := 12, ground := Go.Ground.chain }], guard := none }) rfl (fun K hK => ?_) AllReadyH.nil
    refine step_appB (by rfl) _ _ (by rfl) w.heap.size _ _ _ ([1] ++ twoB L.length) (pairsB L) (by rfl) (by rfl) hO2 ho3 (by simp only [List.length_append, List.length_cons, List.length_nil, twoB_len]; omega) hB3'.size ?_
    intro v4 w5 hO4 hg4
    have hB4 := hB3'.grown hg4 hB3'.size (own_ge hO2)
    have hSn : (fun w' : World => w'.cell? ⟨b, 1, none⟩ = some (.slice A L.length c)) w5 := by
      have h := (hRB.out.below hB4).cell 1 (by omega)
      rw [hf1.out] at h
      exact h
    refine hK.out _ _ hSn (fun _ => ?_)
    clear hK K hS
    try simp only [Act.put, List.setIfInBounds_toArray, List.set_cons_zero, List.set_cons_succ]
    have hS := hSn
    clear hSn
    refine wpAnyH_take (i := 14) (oi := { dst := some 4, op := Go.Op.assign (Go.Operand.tmp 29), type := 34, pos := "ref.go:31", after := #[{ on := 13, ground := Go.Ground.data }, { on := 13, ground := Go.Ground.chain }, { on := 0, ground := Go.Ground.phase }, { on := 1, ground := Go.Ground.phase }, { on := 2, ground := Go.Ground.phase }, { on := 3, ground := Go.Ground.phase }, { on := 4, ground := Go.Ground.phase }, { on := 5, ground := Go.Ground.phase }, { on := 6, ground := Go.Ground.phase }, { on := 7, ground := Go.Ground.phase }, { on := 8, ground := Go.Ground.phase }, { on := 9, ground := Go.Ground.phase }, { on := 10, ground := Go.Ground.phase }, { on := 11, ground := Go.Ground.phase }, { on := 12, ground := Go.Ground.phase }, { on := 13, ground := Go.Ground.phase }], guard := none }) (v := v4) rfl (by kernel_rfl) (by kernel_rfl) (by kernel_rfl) (fun _ _ _ h => h) (Or.inl ⟨by rfl, fun w hSw => ?_⟩) hS ?_
    · go_split_ands
      go_simp
    try simp only [Act.put, List.setIfInBounds_toArray, List.set_cons_zero, List.set_cons_succ]
    refine wpAnyH_done (by kernel_rfl) ?_ _
    go_wp2_with fail
    go_ret
    refine ⟨_, rfl, ?_, hB4⟩
    have e1 : encR (d + 1) (RT.bucket L) = [1] ++ twoB L.length ++ pairsB L := by simp [encR]
    rw [e1]
    exact hO4

  · go_simp
    refine (refTwo_any L.length w.drew (by omega)).mono ?_
    rintro e wA ⟨v1, rfl, ho1, hB1⟩
    go_wp2_with fail
    have hSn : (fun w' : World => w'.cell? ⟨b, 1, none⟩ = some (.slice A L.length c)) wA := (hB1.cell (World.block_lt_of_cell? _ _ hS)).trans hS
    skip
    have hBw := Lib.hid (Nat.le_trans hBw.out hB1.size)
    have hB := hB.trans (hB1.mono hB.size)
    refine hK.out _ _ hSn (fun _ => ?_)
    clear hK K hS
    try simp only [Act.put, List.setIfInBounds_toArray, List.set_cons_zero, List.set_cons_succ]
    have hS := hSn
    clear hSn
    clear hB1
    refine wpAnyH_ready (rs := [0]) (by kernel_rfl) (by simp) ?_
    refine AllReadyH.cons (o := { dst := some 16, op := Go.Op.buildSlice 34 1 #[(0, Go.Operand.const (Go.Value.int Go.IntKind.u8 1))], type := 34, pos := "ref.go:31", after := #[], guard := none }) rfl (fun K hK => ?_) AllReadyH.nil
    go_simp
    have hBl := (Below.refl _ wA).alloc (Nat.le_refl _) (.cells #[.int .u8 1] 5)
    have hO0 : OwnB wA.heap.size (wA.alloc (.cells #[.int .u8 1] 5)) (.slice (some ⟨wA.heap.size, 0, none⟩) 1 1) [1] := OwnB.new (Nat.le_refl _) rfl (by unfold maxLen; omega) rfl
    have hSn : (fun w' : World => w'.cell? ⟨b, 1, none⟩ = some (.slice A L.length c)) (wA.alloc (.cells #[.int .u8 1] 5)) := (hBl.cell (World.block_lt_of_cell? _ _ hS)).trans hS
    have hB := hB.trans (hBl.mono hB.size)
    have hO0 := own_base hO0 hBw.out
    have ho1 := ho1.below hBl
    refine hK.out _ _ hSn (fun _ => ?_)
    clear hK K hS
    try simp only [Act.put, List.setIfInBounds_toArray, List.set_cons_zero, List.set_cons_succ]
    have hS := hSn
    clear hSn
    clear hBl
    generalize wA.alloc (.cells #[.int .u8 1] 5) = w2 at *
    generalize wA.heap.size = B0 at *
    refine wpAnyH_ready (rs := [7]) (by kernel_rfl) (by simp) ?_
    refine AllReadyH.cons (o := { dst := some 23, op := Go.Op.call { callee := Go.Callee.builtin Go.Builtin.append, args := #[Go.Operand.tmp 16, Go.Operand.tmp 22], argTypes := #[34, 34] }, type := 34, pos := "ref.go:31", after := #[{ on := 0, ground := Go.Ground.data }, { on := 6, ground := Go.Ground.data }, { on := 6, ground := Go.Ground.chain }], guard := none }) rfl (fun K hK => ?_) AllReadyH.nil
    refine step_appB (by rfl) _ _ (by rfl) w.heap.size _ _ _ [1] (twoB L.length) (by rfl) (by rfl) hO0 ho1 (by simp [twoB_len]) hB.size ?_
    intro v2 w3 hO2 hg2
    have hB2 := hB.grown hg2 hB.size (own_ge hO0)
    have hSn : (fun w' : World => w'.cell? ⟨b, 1, none⟩ = some (.slice A L.length c)) w3 := by
      have h := (hRB.out.below hB2).cell 1 (by omega)
      rw [hf1.out] at h
      exact h
    refine hK.out _ _ hSn (fun _ => ?_)
    clear hK K hS
    try simp only [Act.put, List.setIfInBounds_toArray, List.set_cons_zero, List.set_cons_succ]
    have hS := hSn
    clear hSn hO0 hg2 ho1
    refine wpAnyH_ready (rs := [12]) (by kernel_rfl) (by simp) ?_
    refine AllReadyH.cons (o := { dst := some 28, op := Go.Op.call { callee := Go.Callee.value (Go.Operand.func 33), args := #[Go.Operand.tmp 27], argTypes := #[30] }, type := 34, pos := "ref.go:31", after := #[{ on := 11, ground := Go.Ground.data }, { on := 7, ground := Go.Ground.chain }], guard := none }) rfl (fun K hK => ?_) AllReadyH.nil
    go_simp
    refine (refPairs_any A c L w3 (hRd.out.below hB2) (by omega) hf.2).mono ?_
    rintro e w4 ⟨v3, rfl, ho3, hB3⟩
    go_wp2_with fail
    have hSn : (fun w' : World => w'.cell? ⟨b, 1, none⟩ = some (.slice A L.length c)) w4 := (hB3.cell (World.block_lt_of_cell? _ _ hS)).trans hS
    have hO2 := hO2.below hB3
    have hB3' := hB2.trans (hB3.mono hB2.size)
    refine hK.out _ _ hSn (fun _ => ?_)
    clear hK K hS
    try simp only [Act.put, List.setIfInBounds_toArray, List.set_cons_zero, List.set_cons_succ]
    have hS := hSn
    clear hSn
    refine wpAnyH_ready (rs := [13]) (by kernel_rfl) (by simp) ?_
    refine AllReadyH.cons (o := { dst := some 29, op := Go.Op.call { callee := Go.Callee.builtin Go.Builtin.append, args := #[Go.Operand.tmp 23, Go.Operand.tmp 28], argTypes := #[34, 34] }, type := 34, pos := "ref.go:31", after := #[{ on := 7, ground := Go.Ground.data }, { on := 12, ground := Go.Ground.data }, { on := 12, ground := Go.Ground.chain }], guard := none }) rfl (fun K hK => ?_) AllReadyH.nil
    refine step_appB (by rfl) _ _ (by rfl) w.heap.size _ _ _ ([1] ++ twoB L.length) (pairsB L) (by rfl) (by rfl) hO2 ho3 (by simp only [List.length_append, List.length_cons, List.length_nil, twoB_len]; omega) hB3'.size ?_
    intro v4 w5 hO4 hg4
    have hB4 := hB3'.grown hg4 hB3'.size (own_ge hO2)
    have hSn : (fun w' : World => w'.cell? ⟨b, 1, none⟩ = some (.slice A L.length c)) w5 := by
      have h := (hRB.out.below hB4).cell 1 (by omega)
      rw [hf1.out] at h
      exact h
    refine hK.out _ _ hSn (fun _ => ?_)
    clear hK K hS
    try simp only [Act.put, List.setIfInBounds_toArray, List.set_cons_zero, List.set_cons_succ]
    have hS := hSn
    clear hSn
    refine wpAnyH_take (i := 14) (oi := { dst := some 4, op := Go.Op.assign (Go.Operand.tmp 29), type := 34, pos := "ref.go:31", after := #[{ on := 13, ground := Go.Ground.data }, { on := 13, ground := Go.Ground.chain }, { on := 0, ground := Go.Ground.phase }, { on := 1, ground := Go.Ground.phase }, { on := 2, ground := Go.Ground.phase }, { on := 3, ground := Go.Ground.phase }, { on := 4, ground := Go.Ground.phase }, { on := 5, ground := Go.Ground.phase }, { on := 6, ground := Go.Ground.phase }, { on := 7, ground := Go.Ground.phase }, { on := 8, ground := Go.Ground.phase }, { on := 9, ground := Go.Ground.phase }, { on := 10, ground := Go.Ground.phase }, { on := 11, ground := Go.Ground.phase }, { on := 12, ground := Go.Ground.phase }, { on := 13, ground := Go.Ground.phase }], guard := none }) (v := v4) rfl (by kernel_rfl) (by kernel_rfl) (by kernel_rfl) (fun _ _ _ h => h) (Or.inl ⟨by rfl, fun w hSw => ?_⟩) hS ?_
    · go_split_ands
      go_simp
    try simp only [Act.put, List.setIfInBounds_toArray, List.set_cons_zero, List.set_cons_succ]
    refine wpAnyH_done (by kernel_rfl) ?_ _
    go_wp2_with fail
    go_ret
    refine ⟨_, rfl, ?_, hB4⟩
    have e1 : encR (d + 1) (RT.bucket L) = [1] ++ twoB L.length ++ pairsB L := by simp [encR]
    rw [e1]
    exact hO4


theorem refOfR_any : ∀ (d l : Nat) (t : RT) (b : Nat) (w : World), d + l = 14 → 1 ≤ d → RfR w t b → FairR t → (encR d t).length ≤ 1000000000 → Calls Tryz.prog 12 #[.pointer (some ⟨b, 0, none⟩), .int .i64 l] w (MadeB (encR d t) w)
  | 0, _, _, _, _, _, h, _, _, _ => by omega
  | d + 1, l, .no, b, w, hl, h1, hr, hf, hL => hr.elim
  | d + 1, l, .bucket L, b, w, hl, h1, hr, hf, hL => refOf_bucket d l b L w hr hf hL
  | d + 1, l, .inner P K, b, w, hl, h1, hr, hf, hL => refOf_inner d l b P K w hl hr hf hL (fun t b w hr hf hL hd => refOfR_any d (l + 1) t b w (by omega) hd hr hf hL)
end Go.Proofs.YtchimfgbdfmegaaGreat
/- The ways that lead to a node: then, leads, alone. -/
namespace Go.Proofs.YtchimfgbdfmegaaGreat
open Go.RowKit Go.Lib
set_option linter.unusedVariables false
set_option linter.unusedSimpArgs false
set_option maxRecDepth 100000
attribute [local irreducible] cnt
def ics (p : List Nat) : List Value := p.map fun n : Nat => Value.int .i64 n
/-- a way of one's own -/
def OwnI (base : Nat) (w : World) (v : Value) (p : List Nat) : Prop := w.ownsRow base 3 1 v p.length (ics p)
theorem ics_len (L : List Nat) : (ics L).length = L.length := by simp [ics]
theorem OwnI.nil (base : Nat) (w : World) : OwnI base w (.slice none 0 0) [] := ⟨rfl, .inl ⟨rfl, rfl⟩⟩
theorem OwnI.below {base : Nat} {w w' : World} {v : Value} {L : List Nat} (h : OwnI base w v L) (hb : Below w.heap.size w w') : OwnI base w' v L := own_keep h (Keep.of_below (X := []) hb) (by simp)
theorem info3 : (Tryz.prog.info? 3).map (fun i => (i.zero, i.size, i.bytes)) = some (some (.int .i64 0), 1, 8) := by kernel_rfl
theorem zsz_int : (Value.cells (.int .i64 0)).size = 1 := by simp [Value.cells]
set_option maxHeartbeats 4000000 in
theorem then_any (base : Nat) (v : Value) (p : List Nat) (i : Nat) (w : World) (ho : OwnI base w v p) (hp : p.length ≤ 100) (hi : i < 100) :
    Calls Tryz.prog 98 #[v, .int .i64 i] w fun e w' => ∃ v', e = .returned v' ∧ OwnI w.heap.size w' v' (p ++ [i]) ∧ Below w.heap.size w w' := by
  obtain ⟨i3, hi3, hy30, hy31, hy32⟩ := info_parts info3
  have hBl := (Below.refl _ w).alloc (Nat.le_refl _) (.cells #[.int .i64 i] 3)
  have hnb : (w.alloc (.cells #[.int .i64 i] 3)).heap[w.heap.size]? = some (.cells #[.int .i64 i] 3 (0, 0)) := heap_alloc_new w _
  have L1 : IntKind.i64.wrap (p.length : Int) = (p.length : Int) := by rw [IntWalk.i64_in _ (by omega)]
  have fin : ∀ (v' : Value) (wa : World), wa.ownsRow (w.alloc (.cells #[.int .i64 i] 3)).heap.size 3 1 v' (p.length + 1) (ics p ++ [.int .i64 i]) → (w.alloc (.cells #[.int .i64 i] 3)).grownBy wa none → OwnI w.heap.size wa v' (p ++ [i]) ∧ Below w.heap.size w wa := fun v' wa h hg => by
    refine ⟨?_, hBl.grown hg hBl.size (fun k hk => by cases hk)⟩
    have e1 : ics (p ++ [i]) = ics p ++ [.int .i64 i] := by simp [ics]
    unfold OwnI
    rw [e1, List.length_append]
    refine ⟨h.1, ?_⟩
    rcases h.2 with h1 | ⟨g, cap, cur, h1, h2, h3⟩
    · exact .inl h1
    · exact .inr ⟨g, cap, cur, h1, Nat.le_trans hBl.size h2, h3⟩
  rcases ho.2 with ⟨h1, h0⟩ | ⟨g, cap, cur, h1, h2, h3, h4, _⟩
  · have hpn : p = [] := List.length_eq_zero_iff.1 h0
    subst hpn
    subst h1
    clear ho h0
    have Hfin := Lib.hid fin
    clear fin hBl
    go_enter Tryz.func98, Tryz.ntmps98
    go_wp2_with (at_builtin; refine wpList_append_grows _ rfl _ _ 124 rfl 3 i3 _ 1 8 Tryz.underlying124 hi3 hy30 hy31 hy32 zsz_int (by decide) none 0 0 [] rfl (fun _ => ⟨rfl, rfl⟩) rfl (fun b e => by cases e) ⟨w.heap.size, 0, none⟩ 1 1 [.int .i64 i] rfl rfl (World.news_of_block hnb) (by simp [Value.oneCell']) (by omega) (by unfold maxLen; omega) (by omega) ?_; intro v' wa hown hg)
    go_ret
    exact ⟨_, rfl, Hfin.out _ _ hown hg⟩
  · subst h1
    have hc2 : ∀ b, (some ⟨g, 0, none⟩ : Option Addr) = some b → ∀ j u, (ics p)[j]? = some u → (w.alloc (.cells #[.int .i64 i] 3)).cell? (b.add j) = some u := fun b e j u hu => by
      cases e
      have h := World.ownsRow.cells (show World.ownsRow _ _ _ _ _ _ _ from ho) rfl j u hu
      exact (hBl.cell (World.block_lt_of_cell? w _ h)).trans h
    have hlt : p.length ≤ cap := h4
    clear ho h3
    have Hfin := Lib.hid fin
    clear fin hBl
    go_enter Tryz.func98, Tryz.ntmps98
    go_wp2_with (at_builtin; refine wpList_append_grows _ rfl _ _ 124 rfl 3 i3 _ 1 8 Tryz.underlying124 hi3 hy30 hy31 hy32 zsz_int (by decide) (some ⟨g, 0, none⟩) p.length p.length (ics p) rfl (fun e => by cases e) (by rw [ics_len]; omega) hc2 ⟨w.heap.size, 0, none⟩ 1 1 [.int .i64 i] rfl rfl (World.news_of_block hnb) (by simp [Value.oneCell']) (by omega) (by unfold maxLen; omega) (by omega) ?_; intro v' wa hown hg)
    go_ret
    exact ⟨_, rfl, Hfin.out _ _ hown hg⟩
/-- whether a hash leads along a way -/
def leadsB (h : Nat) (p : List Nat) : Bool := decide (∀ j (hj : j < p.length), h / 32 ^ j % 32 = p[j])
theorem OwnI.at {base : Nat} {w : World} {A : Option Addr} {n c : Nat} {p : List Nat} (h : OwnI base w (.slice A n c) p) (k : Nat) (hk : k < p.length) : ∃ g, A = some ⟨g, 0, none⟩ ∧ w.cell? ⟨g, k, none⟩ = some (.int .i64 (p[k] : Nat)) := by
  obtain ⟨g, cap, cur, e, -⟩ := own_blk h (by omega)
  simp only [Value.slice.injEq] at e
  obtain ⟨rfl, rfl, rfl⟩ := e
  refine ⟨g, rfl, ?_⟩
  have h' : w.ownsRow base 3 1 (.slice (some ⟨g, 0, none⟩) p.length c) p.length (ics p) := h
  rw [h'.cellAt k (by omega)]
  simp [ics, hk]
set_option maxHeartbeats 4000000 in
theorem leads_any (base : Nat) (v : Value) (p : List Nat) (h : Nat) (w : World) (ho : OwnI base w v p) (hp : p.length ≤ 13) (hh : h < 18446744073709551616) :
    Calls Tryz.prog 96 #[.int .u64 h, v] w fun e w' => e = .returned (.bool (leadsB h p)) ∧ w = w' := by
  obtain ⟨A, c, rfl⟩ := own_formN ho
  have kat : ∀ lv : Nat, lv < 13 → Calls Tryz.prog 79 #[.int .u64 h, .int .i64 lv] w fun e w' => e = .returned (.int .i64 ((h / 32 ^ lv % 32 : Nat) : Int)) ∧ w = w' := fun lv hl => at_chk (fun _ => h) lv ByteArray.empty w hl hh
  obtain ⟨n, hn⟩ : ∃ n, n = p.length := ⟨_, rfl⟩
  rw [← hn] at ho hp ⊢
  have HN := Lib.hid hn
  have HO := Lib.hid ho
  clear hn ho
  go_enter Tryz.func96, Tryz.ntmps96
  go_wp2_with fail
  go_loopw [9] (fun vi wr => ∃ k : Nat, k ≤ n ∧ vi = .int .i64 k ∧ Hid (∀ j (hj : j < p.length), j < k → h / 32 ^ j % 32 = p[j]) ∧ wr = w) (fun vi wr => n - (intOf vi).toNat)
  case atStart => exact ⟨0, by omega, rfl, Lib.hid (fun j _ h => by omega), rfl⟩
  case round =>
    obtain ⟨k, hk, rfl, hE, rfl⟩ := hrel
    by_cases hlt : k < n
    · have hkp : k < p.length := by rw [← HN.out]; exact hlt
      obtain ⟨g, rfl, c0⟩ := HO.out.at k hkp
      have ka := kat k (by omega)
      have L1 : (k : Int) < (n : Int) := by omega
      have L2 : IntKind.i64.wrap ((k : Int) + 1) = ((k + 1 : Nat) : Int) := by rw [IntWalk.i64_in _ (by omega)]; omega
      by_cases he : h / 32 ^ k % 32 = p[k]
      · have S := Lib.hid (fun j (hj : j < p.length) (hjk : j < k + 1) => by
          by_cases e : j = k
          · subst e; exact he
          · exact hE.out j hj (by omega) : ∀ j (hj : j < p.length), j < k + 1 → h / 32 ^ j % 32 = p[j])
        rw [he] at ka
        clear he
        generalize p[k] = x at *
        go_wp2_with fail
        refine ka.mono ?_
        rintro e w' ⟨rfl, rfl⟩
        go_wp2_with fail
        first | exact ⟨⟨k + 1, by omega, by go_num, S, rfl⟩, by simp [intOf]; omega⟩ | exact ⟨⟨k + 1, by omega, by go_num, S, trivial⟩, by simp [intOf]; omega⟩
      · have S : leadsB h p = false := by
          unfold leadsB
          rw [decide_eq_false_iff_not]
          exact fun hh => he (hh k hkp)
        have F : ¬ ((h / 32 ^ k % 32 : Nat) : Int) = ((p[k] : Nat) : Int) := by omega
        replace S := Lib.hid S
        clear he
        generalize p[k] = x at *
        generalize h / 32 ^ k % 32 = y at *
        go_wp2_with fail
        refine ka.mono ?_
        rintro e w' ⟨rfl, rfl⟩
        go_wp2_with fail
        go_ret
        rw [S.out]
        exact ⟨rfl, rfl⟩
    · obtain rfl : k = n := by omega
      have S : leadsB h p = true := by
        unfold leadsB
        rw [decide_eq_true_iff]
        exact fun j hj => hE.out j hj (by rw [HN.out]; exact hj)
      replace S := Lib.hid S
      go_wp2_with fail
      go_ret
      rw [S.out]
      exact ⟨rfl, rfl⟩
end Go.Proofs.YtchimfgbdfmegaaGreat
