/- placed, and slices.Clone, of pairs and of children. -/
import Derived.Test.YtgldgdpgbfejmaaMN
import Derived.Test.YtgldgdpgbfejmaaCa
namespace Go.Proofs.Ytgldgdpgbfejmaa
open Go.RowKit Go.Lib
set_option linter.unusedVariables false
set_option linter.unusedSimpArgs false
/-- an element more, at place i -/
def insAt {α : Type} (xs : List α) (i : Nat) (x : α) : List α := xs.take i ++ x :: xs.drop i
/-- the element at place i, or one more there -/
def putAt {α : Type} (xs : List α) (i : Nat) (rep : Bool) (x : α) : List α := if rep then xs.set i x else insAt xs i x
theorem flat_drop (xs : List Pr) (i : Nat) : flat (xs.drop i) = (flat xs).drop (i * 2) := by
  induction xs generalizing i with
  | nil => simp [flat]
  | cons x xs ih =>
    cases i with
    | zero => simp [flat]
    | succ i =>
      have := ih i
      rw [show (i + 1) * 2 = i * 2 + 2 by omega]
      simpa [flat] using this
theorem flat_ins (xs : List Pr) (i : Nat) (p : Pr) : (flat xs).take (i * 2) ++ ([.string p.1, .string p.2] ++ (flat xs).drop (i * 2)) = flat (insAt xs i p) := by
  unfold insAt
  rw [flat_append, flat_take, ← flat_drop]
  simp [flat]
theorem flat_del (xs : List Pr) (i : Nat) : (flat xs).take (i * 2) ++ (flat xs).drop ((i + 1) * 2) = flat (xs.eraseIdx i) := by
  rw [← flat_take, ← flat_drop, ← flat_append, List.eraseIdx_eq_take_drop_succ]
theorem insAt_len {α : Type} (xs : List α) (i : Nat) (x : α) (h : i ≤ xs.length) : (insAt xs i x).length = xs.length + 1 := by
  unfold insAt; simp; omega
/-- children as the cells of a row -/
def kcs (ks : List Nat) : List Value := ks.map at0
theorem kcs_one (ks : List Nat) : ∀ u ∈ kcs ks, u.oneCell' = true := by
  intro u hu
  obtain ⟨k, _, rfl⟩ := List.mem_map.1 hu
  rfl
theorem kcs_ins (ks : List Nat) (i k : Nat) : (kcs ks).take (i * 1) ++ ([at0 k] ++ (kcs ks).drop (i * 1)) = kcs (insAt ks i k) := by
  unfold insAt kcs; simp
theorem kcs_del (ks : List Nat) (i : Nat) : (kcs ks).take (i * 1) ++ (kcs ks).drop ((i + 1) * 1) = kcs (ks.eraseIdx i) := by
  rw [List.eraseIdx_eq_take_drop_succ]
  unfold kcs; simp
/-- a row of children that the call owns -/
def OwnK (base : Nat) (w : World) (v : Value) (ks : List Nat) : Prop := w.ownsRow base 39 1 v ks.length (kcs ks)
theorem OwnK.base {b b' : Nat} {w : World} {v : Value} {xs : List Nat} (h : OwnK b w v xs) (hb : b' ≤ b) : OwnK b' w v xs := by
  refine ⟨h.1, ?_⟩
  rcases h.2 with h1 | ⟨g, cap, cur, h1, hg, h2⟩
  · exact .inl h1
  · exact .inr ⟨g, cap, cur, h1, Nat.le_trans hb hg, h2⟩
theorem Own.base {b b' : Nat} {w : World} {v : Value} {xs : List Pr} (h : Own b w v xs) (hb : b' ≤ b) : Own b' w v xs := by
  refine ⟨h.1, ?_⟩
  rcases h.2 with h1 | ⟨g, cap, cur, h1, hg, h2⟩
  · exact .inl h1
  · exact .inr ⟨g, cap, cur, h1, Nat.le_trans hb hg, h2⟩
theorem Keep.sub {X Y : List Nat} {a b : World} (h : Keep X a b) (hs : ∀ x ∈ X, x ∈ Y) : Keep Y a b := h.mono fun x hx => .inl (hs x hx)
/-- a place that is the old one, or a new one -/
def SameOrNew (v v' : Value) (n : Nat) : Prop := ∀ g, v'.ownBlock = some g → v.ownBlock = some g ∨ n ≤ g
/-- what placed leaves, of pairs -/
def PlaceP (base : Nat) (v : Value) (ys : List Pr) (w : World) (e : Ending) (w' : World) : Prop :=
  ∃ v', e = .returned v' ∧ Own base w' v' ys ∧ SameOrNew v v' w.heap.size ∧ Keep v.ownBlock.toList w w'
def PlaceK (base : Nat) (v : Value) (ys : List Nat) (w : World) (e : Ending) (w' : World) : Prop :=
  ∃ v', e = .returned v' ∧ OwnK base w' v' ys ∧ SameOrNew v v' w.heap.size ∧ Keep v.ownBlock.toList w w'
set_option maxRecDepth 100000 in
set_option maxHeartbeats 2000000 in
theorem place_pairs_yes (base i : Nat) (v : Value) (xs : List Pr) (p : Pr) (w : World) (h : Own base w v xs) (hi : i < xs.length) (hn : xs.length ≤ 900) :
    Calls Try.prog 61 #[v, .int .i64 i, .bool true, p.v] w (PlaceP base v (xs.set i p) w) := by
  obtain ⟨g, cap, cur, rfl, hg, hB, hc, hcm, hs, ht⟩ := own_blk h (by omega)
  have hh : (w.alloc (.cells #[.string p.1, .string p.2] 27)).ownsRow base 27 2 (.slice (some ⟨g, 0, none⟩) xs.length cap) xs.length (flat xs) := World.ownsRow.alloc h _
  have hk := (Keep.refl [g] w).alloc (.cells #[.string p.1, .string p.2] 27)
  have c0 := hh.cellAt (i * 2) (by omega)
  have c1 := hh.cellAt (i * 2 + 1) (by omega)
  have f0 := hh.frozenAt (i * 2)
  have f1 := hh.frozenAt (i * 2 + 1)
  rw [(flat_get xs i _ (pat_get hi)).1] at c0
  rw [(flat_get xs i _ (pat_get hi)).2] at c1
  have s1 := (hh.stored (i * 2) (.string p.1)).1
  have s2 := (s1.stored (i * 2 + 1) (.string p.2)).1
  rw [flat_set xs i p hi] at s2
  have B2 : (i : Int) < (xs.length : Int) := by omega
  unfold Pr.v
  clear h hB hs ht
  go_enter Try.func61, Try.ntmps61
  go_wp2_with fail
  go_ret
  refine ⟨.slice (some ⟨g, 0, none⟩) xs.length cap, rfl, ?_, fun g hg => .inl hg, ((hk.setCell (by simp) _).setCell (by simp) _)⟩
  unfold Own
  rw [List.length_set]
  exact s2
set_option maxRecDepth 100000 in
set_option maxHeartbeats 2000000 in
theorem place_pairs_no (base i : Nat) (v : Value) (xs : List Pr) (p : Pr) (w : World) (h : Own base w v xs) (hi : i ≤ xs.length) (hn : xs.length ≤ 900) (hb : base ≤ w.heap.size) :
    Calls Try.prog 61 #[v, .int .i64 i, .bool false, p.v] w (PlaceP base v (insAt xs i p) w) := by
  have hlt := fun k hk => (World.ownsRow.lt h k hk).2
  have hh : ((w.alloc (.cells #[.string p.1, .string p.2] 27)).alloc (.cells #[.string p.1, .string p.2] 27)).ownsRow base 27 2 v xs.length (flat xs) := World.ownsRow.alloc (World.ownsRow.alloc h _) _
  have hk := (((Keep.refl v.ownBlock.toList w).alloc (.cells #[.string p.1, .string p.2] 27)).alloc (.cells #[.string p.1, .string p.2] 27))
  have hb2 := Blk.new (w.alloc (.cells #[.string p.1, .string p.2] 27)) 27 #[.string p.1, .string p.2]
  have hsz : (w.alloc (.cells #[.string p.1, .string p.2] 27)).heap.size = w.heap.size + 1 := by simp
  rw [hsz] at hb2
  unfold Pr.v
  clear hsz
  go_enter Try.func61, Try.ntmps61
  go_wp2_with fail
  have hsz : ((w.alloc (.cells #[.string p.1, .string p.2] 27)).alloc (.cells #[.string p.1, .string p.2] 27)).heap.size = w.heap.size + 2 := by simp
  generalize (w.alloc (.cells #[.string p.1, .string p.2] 27)).alloc (.cells #[.string p.1, .string p.2] 27) = W at *
  refine (ins_pairs base i xs.length 1 (w.heap.size + 1) v (flat xs) [.string p.1, .string p.2] W hh hi (by decide) (by omega) (flat_one xs) (by simp [Value.oneCell']) hb2 rfl (by omega) (fun e => by have := hlt _ e; omega)).mono ?_
  rintro e w' ⟨v', rfl, ho, hat, hK⟩
  rw [flat_ins] at ho
  clear hh hb2
  go_wp2_with fail
  go_ret
  refine ⟨v', rfl, ?_, fun g hg => ?_, hk.trans hK⟩
  · unfold Own; rw [insAt_len xs i p hi]; exact ho
  · rcases hat with e | e
    · exact .inl (e ▸ hg)
    · rw [e] at hg; exact .inr (by have := Option.some.inj hg; omega)
theorem place_pairs (base i : Nat) (rep : Bool) (v : Value) (xs : List Pr) (p : Pr) (w : World) (h : Own base w v xs) (hi : i ≤ xs.length) (hr : rep = true → i < xs.length) (hn : xs.length ≤ 900) (hb : base ≤ w.heap.size) :
    Calls Try.prog 61 #[v, .int .i64 i, .bool rep, p.v] w (PlaceP base v (putAt xs i rep p) w) := by
  cases rep with
  | true => exact place_pairs_yes base i v xs p w h (hr rfl) hn
  | false => exact place_pairs_no base i v xs p w h hi hn hb
set_option maxRecDepth 100000 in
set_option maxHeartbeats 2000000 in
theorem place_kids_yes (base i k : Nat) (v : Value) (xs : List Nat) (w : World) (h : OwnK base w v xs) (hi : i < xs.length) (hn : xs.length ≤ 900) :
    Calls Try.prog 73 #[v, .int .i64 i, .bool true, at0 k] w (PlaceK base v (xs.set i k) w) := by
  obtain ⟨g, cap, cur, rfl, hg, hB, hc, hcm, hs, ht⟩ := own_blk h (by omega)
  have hh : w.ownsRow base 39 1 (.slice (some ⟨g, 0, none⟩) xs.length cap) xs.length (kcs xs) := h
  have c0 := hh.cellAt i (by omega)
  have f0 := hh.frozenAt i
  have hget : (kcs xs)[i]? = some (at0 xs[i]) := by simp [kcs, hi]
  rw [hget] at c0
  have s1 := (hh.stored i (at0 k)).1
  have e1 : (kcs xs).set i (at0 k) = kcs (xs.set i k) := by simp [kcs, List.map_set]
  rw [e1] at s1
  have B2 : (i : Int) < (xs.length : Int) := by omega
  clear h hB hs ht hget e1
  unfold at0 at *
  go_enter Try.func73, Try.ntmps73
  go_wp2_with fail
  go_ret
  refine ⟨.slice (some ⟨g, 0, none⟩) xs.length cap, rfl, ?_, fun g hg => .inl hg, (Keep.refl _ w).setCell (by simp [Value.ownBlock]) _⟩
  unfold OwnK
  rw [List.length_set]
  exact s1
set_option maxRecDepth 100000 in
set_option maxHeartbeats 2000000 in
theorem place_kids_no (base i k : Nat) (v : Value) (xs : List Nat) (w : World) (h : OwnK base w v xs) (hi : i ≤ xs.length) (hn : xs.length ≤ 900) (hb : base ≤ w.heap.size) :
    Calls Try.prog 73 #[v, .int .i64 i, .bool false, at0 k] w (PlaceK base v (insAt xs i k) w) := by
  have hlt := fun k hk => (World.ownsRow.lt h k hk).2
  have hh : (w.alloc (.cells #[at0 k] 39)).ownsRow base 39 1 v xs.length (kcs xs) := World.ownsRow.alloc h _
  have hk := (Keep.refl v.ownBlock.toList w).alloc (.cells #[at0 k] 39)
  have hb2 := Blk.new w 39 #[at0 k]
  unfold at0 at *
  go_enter Try.func73, Try.ntmps73
  go_wp2_with fail
  have hsz : (w.alloc (.cells #[.pointer (some ⟨k, 0, none⟩)] 39)).heap.size = w.heap.size + 1 := by simp
  generalize w.alloc (.cells #[.pointer (some ⟨k, 0, none⟩)] 39) = W at *
  refine (ins_kids base i xs.length 1 w.heap.size v (kcs xs) [at0 k] W hh hi (by decide) (by omega) (kcs_one xs) (by simp [Value.oneCell', at0]) hb2 rfl (by omega) (fun e => by have := hlt _ e; omega)).mono ?_
  rintro e w' ⟨v', rfl, ho, hat, hK⟩
  rw [kcs_ins] at ho
  clear hh hb2
  go_wp2_with fail
  go_ret
  refine ⟨v', rfl, ?_, fun g hg => ?_, hk.trans hK⟩
  · unfold OwnK; rw [insAt_len xs i k hi]; exact ho
  · rcases hat with e | e
    · exact .inl (e ▸ hg)
    · rw [e] at hg; exact .inr (by have := Option.some.inj hg; omega)
theorem place_kids (base i k : Nat) (rep : Bool) (v : Value) (xs : List Nat) (w : World) (h : OwnK base w v xs) (hi : i ≤ xs.length) (hr : rep = true → i < xs.length) (hn : xs.length ≤ 900) (hb : base ≤ w.heap.size) :
    Calls Try.prog 73 #[v, .int .i64 i, .bool rep, at0 k] w (PlaceK base v (putAt xs i rep k) w) := by
  cases rep with
  | true => exact place_kids_yes base i k v xs w h (hr rfl) hn
  | false => exact place_kids_no base i k v xs w h hi hn hb

/-- a copy of a row: nil of nil, else a new one -/
theorem own_nil_or {w : World} {base : Nat} {e : TypeId} {size n : Nat} {v : Value} {xs : List Value} (h : w.ownsRow base e size v n xs) : (v = .slice none 0 0 ∧ n = 0) ∨ ∃ g cap, v = .slice (some ⟨g, 0, none⟩) n cap := by
  rcases h.2 with h1 | ⟨g, cap, cur, h1, _⟩
  · exact .inl h1
  · exact .inr ⟨g, cap, h1⟩
def CloneP (xs : List Pr) (w : World) (e : Ending) (w' : World) : Prop := ∃ v, e = .returned v ∧ Own w.heap.size w' v xs ∧ Below w.heap.size w w'
def CloneK (xs : List Nat) (w : World) (e : Ending) (w' : World) : Prop := ∃ v, e = .returned v ∧ OwnK w.heap.size w' v xs ∧ Below w.heap.size w w'
theorem clone_nil (w : World) : Calls Try.prog 52 #[.slice none 0 0] w fun e w' => e = .returned (.slice none 0 0) ∧ w = w' := by
  have hnl := fun w => run_eql_slice_nil (P := Try.prog) w 40 27 none 0 0 0 0 Try.underlying40
  go_enter Try.func52, Try.ntmps52
  go_wp2_with fail
  go_ret
  exact ⟨rfl, rfl⟩
theorem clone_pairs (base : Nat) (v : Value) (xs : List Pr) (w : World) (h : Own base w v xs) (hn : xs.length ≤ 900) : Calls Try.prog 52 #[v] w (CloneP xs w) := by
  obtain ⟨A, c, rfl, hR, hA⟩ := h.rd
  rcases own_nil_or h with ⟨h1, h0⟩ | ⟨g, cap, h1⟩
  · rw [h1]
    obtain rfl := List.length_eq_zero_iff.1 h0
    refine (clone_nil w).mono ?_
    rintro e w' ⟨rfl, rfl⟩
    exact ⟨_, rfl, World.ownsRow_nil _ _ _ _, Below.refl _ _⟩
  · simp only [Value.slice.injEq, true_and] at h1
    obtain ⟨rfl, rfl⟩ := h1
    refine (clone_any g 0 c xs w hR (by omega)).mono ?_
    rintro e w' ⟨g', c', rfl, hO, hB⟩
    exact ⟨_, rfl, hO, hB⟩
theorem clone_knil (w : World) : Calls Try.prog 53 #[.slice none 0 0] w fun e w' => e = .returned (.slice none 0 0) ∧ w = w' := by
  have hnl := fun w => run_eql_slice_nil (P := Try.prog) w 31 39 none 0 0 0 0 Try.underlying31
  go_enter Try.func53, Try.ntmps53
  go_wp2_with fail
  go_ret
  exact ⟨rfl, rfl⟩
theorem ownk_lit (w : World) : w.alloc (.cells #[] 39) |>.ownsRow w.heap.size 39 1 (.slice (some ⟨w.heap.size, 0, none⟩) 0 0) 0 [] :=
  World.ownsRow_lit w #[] 0 (Nat.le_refl _) (Nat.zero_le _) rfl
set_option maxHeartbeats 2000000 in
theorem clone_kids (base : Nat) (v : Value) (xs : List Nat) (w : World) (h : OwnK base w v xs) (hn : xs.length ≤ 900) : Calls Try.prog 53 #[v] w (CloneK xs w) := by
  rcases own_nil_or h with ⟨h1, h0⟩ | ⟨g, cap, h1⟩
  · rw [h1]
    obtain rfl := List.length_eq_zero_iff.1 h0
    refine (clone_knil w).mono ?_
    rintro e w' ⟨rfl, rfl⟩
    exact ⟨_, rfl, World.ownsRow_nil _ _ _ _, Below.refl _ _⟩
  · subst h1
    obtain ⟨i0, hi, hz0, hz1, hz2⟩ := info_parts info39
    have hh : (w.alloc (.cells #[] 39)).ownsRow base 39 1 (.slice (some ⟨g, 0, none⟩) xs.length cap) xs.length (kcs xs) := World.ownsRow.alloc h _
    have hcells : ∀ j u, (kcs xs)[j]? = some u → (w.alloc (.cells #[] 39)).cell? ((⟨g, 0, none⟩ : Addr).add j) = some u := fun j u hu => by
      have hl := (List.getElem?_eq_some_iff.1 hu).1
      have : (kcs xs).length = xs.length := by simp [kcs]
      rw [addr_at, Nat.zero_add, hh.cellAt j (by omega)]; exact hu
    have hkl : (kcs xs).length = xs.length * 1 := by simp [kcs]
    have hlit := ownk_lit w
    have hnl := fun w => run_eql_slice_nil (P := Try.prog) w 31 39 (some ⟨g, 0, none⟩) xs.length cap 0 0 Try.underlying31
    clear hh h
    go_enter Try.func53, Try.ntmps53
    go_wp2_with (at_builtin; refine wpList_append_own _ rfl _ _ 31 rfl w.heap.size 39 i0 _ 1 8 Try.underlying31 hi hz0 hz1 hz2 zsz_kids (by decide) _ _ _ rfl hlit ⟨g, 0, none⟩ xs.length cap (kcs xs) rfl hkl hcells (kcs_one xs) (by unfold maxLen; omega) (by omega) (by simp) ?_; intro v' wa hown' hgrow hnil)
    go_ret
    have hB : Below w.heap.size w wa := ((Below.refl _ w).alloc (Nat.le_refl _) _).grown hgrow (by simp) (own_ge hlit)
    refine ⟨v', rfl, ?_, hB⟩
    unfold OwnK
    simpa using hown'
end Go.Proofs.Ytgldgdpgbfejmaa
/- What the chunks of a node have; the sets and lists that tell it: plain mathematics. -/
namespace Go.Proofs.Ytgldgdpgbfejmaa
open Go.RowKit Go.Lib
set_option linter.unusedVariables false
set_option linter.unusedSimpArgs false
/-- what a chunk has: nothing, a pair, a child (its block) -/
inductive Sl where
  | no
  | pr (p : Pr)
  | kd (k : Nat)
abbrev Slots := Nat → Sl
def Sl.p? : Sl → Option Pr
  | .pr p => some p
  | _ => none
def Sl.k? : Sl → Option Nat
  | .kd k => some k
  | _ => none
/-- a chunk changed -/
def Slots.put (S : Slots) (i : Nat) (x : Sl) : Slots := fun j => if j = i then x else S j
/-- what the first n chunks have -/
def fm {α : Type} (f : Nat → Option α) (n : Nat) : List α := (List.range n).filterMap f
def rest {α : Type} (f : Nat → Option α) (i : Nat) : List α := (List.range' (i + 1) (31 - i)).filterMap f
theorem fm_split {α : Type} (f : Nat → Option α) (i : Nat) (h : i < 32) : fm f 32 = fm f i ++ ((f i).toList ++ rest f i) := by
  have e : List.range 32 = List.range i ++ (i :: List.range' (i + 1) (31 - i)) := by
    have h1 : List.range 32 = List.range (i + (1 + (31 - i))) := by congr 1; omega
    rw [h1, List.range_eq_range', List.range_eq_range', ← List.range'_append_1, Nat.zero_add, Nat.add_comm 1 (31 - i), List.range'_succ]
  unfold fm rest
  rw [e, List.filterMap_append, List.filterMap_cons]
  cases f i <;> simp
theorem fmap_congr {α : Type} (f g : Nat → Option α) : ∀ l : List Nat, (∀ j ∈ l, f j = g j) → l.filterMap f = l.filterMap g
  | [], _ => rfl
  | x :: r, h => by rw [List.filterMap_cons, List.filterMap_cons, h x (by simp), fmap_congr f g r (fun j hj => h j (by simp [hj]))]
theorem fm_congr {α : Type} (f g : Nat → Option α) (n : Nat) (h : ∀ j, j < n → f j = g j) : fm f n = fm g n := by
  unfold fm
  apply fmap_congr
  intro j hj
  exact h j (List.mem_range.1 hj)
theorem rest_congr {α : Type} (f g : Nat → Option α) (i : Nat) (h : ∀ j, i < j → f j = g j) : rest f i = rest g i := by
  unfold rest
  apply fmap_congr
  intro j hj
  exact h j (by have := (List.mem_range'_1.1 hj).1; omega)
theorem fm_upd {α : Type} (f g : Nat → Option α) (i : Nat) (h : i < 32) (hg : ∀ j, j ≠ i → g j = f j) : fm g 32 = fm f i ++ ((g i).toList ++ rest f i) := by
  rw [fm_split g i h, fm_congr g f i (fun j hj => hg j (by omega)), rest_congr g f i (fun j hj => hg j (by omega))]
theorem fm_put {α : Type} (f g : Nat → Option α) (i : Nat) (b : α) (h : i < 32) (hg : ∀ j, j ≠ i → g j = f j) (hb : g i = some b) : fm g 32 = putAt (fm f 32) (fm f i).length (f i).isSome b := by
  rw [fm_upd f g i h hg, hb, fm_split f i h]
  cases hf : f i with
  | none =>
    unfold putAt insAt
    simp
  | some a =>
    unfold putAt
    simp
theorem fm_erase {α : Type} (f g : Nat → Option α) (i : Nat) (h : i < 32) (hg : ∀ j, j ≠ i → g j = f j) (hb : g i = none) : fm g 32 = if (f i).isSome then (fm f 32).eraseIdx (fm f i).length else fm f 32 := by
  rw [fm_upd f g i h hg, hb, fm_split f i h]
  cases hf : f i with
  | none => simp
  | some a => simp [List.eraseIdx_append_of_length_le]
theorem fm_same {α : Type} (f g : Nat → Option α) (h : ∀ j, g j = f j) : fm g 32 = fm f 32 := fm_congr _ _ _ (fun j _ => h j)
theorem fm_len_le {α : Type} (f : Nat → Option α) (n : Nat) : (fm f n).length ≤ n := by
  unfold fm
  have := List.length_filterMap_le f (List.range n)
  simpa using this
theorem fm_lt {α : Type} (f : Nat → Option α) (i : Nat) (h : i < 32) (hs : (f i).isSome = true) : (fm f i).length < (fm f 32).length := by
  rw [fm_split f i h]
  obtain ⟨a, ha⟩ := Option.isSome_iff_exists.1 hs
  simp [ha]
theorem fm_le {α : Type} (f : Nat → Option α) (i : Nat) (h : i < 32) : (fm f i).length ≤ (fm f 32).length := by
  rw [fm_split f i h]; simp
theorem fm_at {α : Type} (f : Nat → Option α) (i : Nat) (a : α) (h : i < 32) (hs : f i = some a) : (fm f 32)[(fm f i).length]? = some a := by
  rw [fm_split f i h, hs]
  simp
theorem fm_succ {α : Type} (f : Nat → Option α) (n : Nat) : fm f (n + 1) = fm f n ++ (f n).toList := by
  unfold fm
  rw [List.range_succ, List.filterMap_append]
  cases h : f n <;> simp [h]
/-- the set d has just the chunks of which f says so -/
structure BitsOf (d : Nat) (f : Nat → Bool) : Prop where
  lt : d < 4294967296
  bit : ∀ i, i < 32 → d.testBit i = f i
theorem testBit_big {d i : Nat} (h : d < 4294967296) (hi : 32 ≤ i) : d.testBit i = false := Nat.testBit_lt_two_pow (Nat.lt_of_lt_of_le h (by
  have : (2 : Nat) ^ 32 ≤ 2 ^ i := Nat.pow_le_pow_right (by decide) hi
  simpa using this))
theorem BitsOf.ext {d e : Nat} {f : Nat → Bool} (h : BitsOf d f) (k : BitsOf e f) : d = e := by
  apply Nat.eq_of_testBit_eq
  intro i
  rcases Nat.lt_or_ge i 32 with hi | hi
  · rw [h.bit i hi, k.bit i hi]
  · rw [testBit_big h.lt hi, testBit_big k.lt hi]
theorem onl_nat (i : Nat) (h : i < 32) : onl (i : Int) = 2 ^ i := by simp [onl]; omega
theorem has_bit (d i : Nat) (h : i < 32) : (d &&& onl (i : Int) != 0) = d.testBit i := by
  rw [onl_nat i h]
  have e : d &&& 2 ^ i = if d.testBit i = true then 2 ^ i else 0 := by
    apply Nat.eq_of_testBit_eq
    intro j
    rw [Nat.testBit_and, Nat.testBit_two_pow]
    by_cases hj : i = j
    · subst hj
      cases hb : d.testBit i <;> simp [hb, Nat.testBit_two_pow_self]
    · cases hb : d.testBit i <;> simp [hj, Nat.testBit_two_pow]
  rw [e]
  have := Nat.two_pow_pos i
  cases hb : d.testBit i <;> simp <;> omega
theorem has_out (d : Nat) (i : Int) (h : i < 0 ∨ 32 ≤ i) : (d &&& onl i != 0) = false := by
  have : onl i = 0 := by unfold onl; rw [if_neg (by omega)]
  simp [this]
theorem BitsOf.with_ {d i : Nat} {f g : Nat → Bool} (h : BitsOf d f) (hi : i < 32) (hg : ∀ j, j ≠ i → g j = f j) (hb : g i = true) : BitsOf (d ||| onl (i : Int)) g := by
  refine ⟨?_, fun j hj => ?_⟩
  · have := onl_lt (i : Int)
    have h1 := h.lt
    have := Nat.or_lt_two_pow (n := 32) (by simpa using h1) (by simpa using this)
    simpa using this
  · rw [onl_nat i hi, Nat.testBit_or, Nat.testBit_two_pow, h.bit j hj]
    by_cases e : i = j
    · subst e; simp [hb]
    · rw [hg j (Ne.symm e)]; simp [e]
theorem BitsOf.wo_ {d i : Nat} {f g : Nat → Bool} (h : BitsOf d f) (hi : i < 32) (hg : ∀ j, j ≠ i → g j = f j) (hb : g i = false) : BitsOf (wo d (onl (i : Int))) g := by
  have hlt := onl_lt (i : Int)
  refine ⟨?_, fun j hj => ?_⟩
  · unfold wo
    exact Nat.lt_of_le_of_lt Nat.and_le_left h.lt
  · unfold wo
    have e : 4294967295 - onl (i : Int) = 2 ^ 32 - (onl (i : Int) + 1) := by simp
    rw [e, Nat.testBit_and, Nat.testBit_two_pow_sub_succ (by simpa using hlt), h.bit j hj, onl_nat i hi, Nat.testBit_two_pow]
    by_cases e : i = j
    · subst e; simp [hb]
    · rw [hg j (Ne.symm e)]; simp [e, hj]
theorem BitsOf.same {d : Nat} {f g : Nat → Bool} (h : BitsOf d f) (hg : ∀ j, g j = f j) : BitsOf d g := ⟨h.lt, fun i hi => (h.bit i hi).trans (hg i).symm⟩
theorem BitsOf.zero {f : Nat → Bool} (h : ∀ j, f j = false) : BitsOf 0 f := ⟨by decide, fun i _ => by simp [h i]⟩
theorem cnt_fm {α : Type} {d : Nat} (f : Nat → Option α) (h : BitsOf d (fun i => (f i).isSome)) (n : Nat) (hn : n ≤ 32) : cnt n d = (fm f n).length := by
  induction n with
  | zero => rfl
  | succ n ih =>
    rw [cnt_add n 1 d, ih (by omega), fm_succ, List.length_append]
    congr 1
    have hb := h.bit n (by omega)
    rw [Nat.testBit_eq_decide_div_mod_eq] at hb
    simp only [cnt]
    have : d / 2 ^ n % 2 < 2 := Nat.mod_lt _ (by decide)
    rcases (by omega : d / 2 ^ n % 2 = 0 ∨ d / 2 ^ n % 2 = 1) with hx | hx
    · rw [hx] at hb ⊢
      cases hf : f n with
      | none => rfl
      | some a => rw [hf] at hb; simp at hb
    · rw [hx] at hb ⊢
      cases hf : f n with
      | none => rw [hf] at hb; simp at hb
      | some a => rfl
end Go.Proofs.Ytgldgdpgbfejmaa
