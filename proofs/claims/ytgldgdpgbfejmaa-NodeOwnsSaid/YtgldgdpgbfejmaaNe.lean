/- placed, and slices.Clone, of pairs and of children. -/
import Derived.Test.YtgldgdpgbfejmaaNc
import Derived.Test.YtgldgdpgbfejmaaCa
namespace Go.Proofs.Ytgldgdpgbfejmaa
open Go.RowKit Go.Lib
set_option linter.unusedVariables false
set_option linter.unusedSimpArgs false
/-- an element more, at place i -/
def insAt {α : Type} (xs : List α) (i : Nat) (x : α) : List α := xs.take i ++ x :: xs.drop i
/-- the element at place i, or one more there -/
def putAt {α : Type} (xs : List α) (i : Nat) (rep : Bool) (x : α) : List α := if rep then xs.set i x else insAt xs i x
theorem flat_take (xs : List Pr) (i : Nat) : flat (xs.take i) = (flat xs).take (i * 2) := by
  induction xs generalizing i with
  | nil => simp [flat]
  | cons x xs ih =>
    cases i with
    | zero => simp [flat]
    | succ i =>
      have := ih i
      rw [show (i + 1) * 2 = i * 2 + 2 by omega]
      simpa [flat] using this
theorem flat_drop (xs : List Pr) (i : Nat) : flat (xs.drop i) = (flat xs).drop (i * 2) := by
  induction xs generalizing i with
  | nil => simp [flat]
  | cons x xs ih =>
    cases i with
    | zero => simp [flat]
    | succ i =>
      have := ih i
      rw [show (i + 1) * 2 = i * 2 + 2 by omega]
      simpa [flat] using this
theorem flat_ins (xs : List Pr) (i : Nat) (p : Pr) : (flat xs).take (i * 2) ++ ([.string p.1, .string p.2] ++ (flat xs).drop (i * 2)) = flat (insAt xs i p) := by
  unfold insAt
  rw [flat_append, flat_take, ← flat_drop]
  simp [flat]
theorem flat_del (xs : List Pr) (i : Nat) : (flat xs).take (i * 2) ++ (flat xs).drop ((i + 1) * 2) = flat (xs.eraseIdx i) := by
  rw [← flat_take, ← flat_drop, ← flat_append, List.eraseIdx_eq_take_drop_succ]
theorem insAt_len {α : Type} (xs : List α) (i : Nat) (x : α) (h : i ≤ xs.length) : (insAt xs i x).length = xs.length + 1 := by
  unfold insAt; simp; omega
/-- children as the cells of a row -/
def kcs (ks : List Nat) : List Value := ks.map at0
theorem kcs_one (ks : List Nat) : ∀ u ∈ kcs ks, u.oneCell' = true := by
  intro u hu
  obtain ⟨k, _, rfl⟩ := List.mem_map.1 hu
  rfl
theorem kcs_ins (ks : List Nat) (i k : Nat) : (kcs ks).take (i * 1) ++ ([at0 k] ++ (kcs ks).drop (i * 1)) = kcs (insAt ks i k) := by
  unfold insAt kcs; simp
theorem kcs_del (ks : List Nat) (i : Nat) : (kcs ks).take (i * 1) ++ (kcs ks).drop ((i + 1) * 1) = kcs (ks.eraseIdx i) := by
  rw [List.eraseIdx_eq_take_drop_succ]
  unfold kcs; simp
/-- a row of children that the call owns -/
def OwnK (base : Nat) (w : World) (v : Value) (ks : List Nat) : Prop := w.ownsRow base 39 1 v ks.length (kcs ks)
theorem OwnK.base {b b' : Nat} {w : World} {v : Value} {xs : List Nat} (h : OwnK b w v xs) (hb : b' ≤ b) : OwnK b' w v xs := by
  refine ⟨h.1, ?_⟩
  rcases h.2 with h1 | ⟨g, cap, cur, h1, hg, h2⟩
  · exact .inl h1
  · exact .inr ⟨g, cap, cur, h1, Nat.le_trans hb hg, h2⟩
theorem Own.base {b b' : Nat} {w : World} {v : Value} {xs : List Pr} (h : Own b w v xs) (hb : b' ≤ b) : Own b' w v xs := by
  refine ⟨h.1, ?_⟩
  rcases h.2 with h1 | ⟨g, cap, cur, h1, hg, h2⟩
  · exact .inl h1
  · exact .inr ⟨g, cap, cur, h1, Nat.le_trans hb hg, h2⟩
theorem Keep.sub {X Y : List Nat} {a b : World} (h : Keep X a b) (hs : ∀ x ∈ X, x ∈ Y) : Keep Y a b := h.mono fun x hx => .inl (hs x hx)
/-- a place that is the old one, or a new one -/
def SameOrNew (v v' : Value) (n : Nat) : Prop := ∀ g, v'.ownBlock = some g → v.ownBlock = some g ∨ n ≤ g
/-- what placed leaves, of pairs -/
def PlaceP (base : Nat) (v : Value) (ys : List Pr) (w : World) (e : Ending) (w' : World) : Prop :=
  ∃ v', e = .returned v' ∧ Own base w' v' ys ∧ SameOrNew v v' w.heap.size ∧ Keep v.ownBlock.toList w w'
def PlaceK (base : Nat) (v : Value) (ys : List Nat) (w : World) (e : Ending) (w' : World) : Prop :=
  ∃ v', e = .returned v' ∧ OwnK base w' v' ys ∧ SameOrNew v v' w.heap.size ∧ Keep v.ownBlock.toList w w'
set_option maxRecDepth 100000 in
set_option maxHeartbeats 2000000 in
theorem place_pairs_yes (base i : Nat) (v : Value) (xs : List Pr) (p : Pr) (w : World) (h : Own base w v xs) (hi : i < xs.length) (hn : xs.length ≤ 900) :
    Calls Try.prog 61 #[v, .int .i64 i, .bool true, p.v] w (PlaceP base v (xs.set i p) w) := by
  obtain ⟨g, cap, cur, rfl, hg, hB, hc, hcm, hs, ht⟩ := own_blk h (by omega)
  have hh : (w.alloc (.cells #[.string p.1, .string p.2] 27)).ownsRow base 27 2 (.slice (some ⟨g, 0, none⟩) xs.length cap) xs.length (flat xs) := World.ownsRow.alloc h _
  have hk := (Keep.refl [g] w).alloc (.cells #[.string p.1, .string p.2] 27)
  have c0 := hh.cellAt (i * 2) (by omega)
  have c1 := hh.cellAt (i * 2 + 1) (by omega)
  have f0 := hh.frozenAt (i * 2)
  have f1 := hh.frozenAt (i * 2 + 1)
  rw [(flat_get xs i _ (pat_get hi)).1] at c0
  rw [(flat_get xs i _ (pat_get hi)).2] at c1
  have s1 := (hh.stored (i * 2) (.string p.1)).1
  have s2 := (s1.stored (i * 2 + 1) (.string p.2)).1
  rw [flat_set xs i p hi] at s2
  have B2 : (i : Int) < (xs.length : Int) := by omega
  unfold Pr.v
  clear h hB hs ht
  go_enter Try.func61, Try.ntmps61
  go_wp2_with fail
  go_ret
  refine ⟨.slice (some ⟨g, 0, none⟩) xs.length cap, rfl, ?_, fun g hg => .inl hg, ((hk.setCell (by simp) _).setCell (by simp) _)⟩
  unfold Own
  rw [List.length_set]
  exact s2
set_option maxRecDepth 100000 in
set_option maxHeartbeats 2000000 in
theorem place_pairs_no (base i : Nat) (v : Value) (xs : List Pr) (p : Pr) (w : World) (h : Own base w v xs) (hi : i ≤ xs.length) (hn : xs.length ≤ 900) (hb : base ≤ w.heap.size) :
    Calls Try.prog 61 #[v, .int .i64 i, .bool false, p.v] w (PlaceP base v (insAt xs i p) w) := by
  have hlt := fun k hk => (World.ownsRow.lt h k hk).2
  have hh : ((w.alloc (.cells #[.string p.1, .string p.2] 27)).alloc (.cells #[.string p.1, .string p.2] 27)).ownsRow base 27 2 v xs.length (flat xs) := World.ownsRow.alloc (World.ownsRow.alloc h _) _
  have hk := (((Keep.refl v.ownBlock.toList w).alloc (.cells #[.string p.1, .string p.2] 27)).alloc (.cells #[.string p.1, .string p.2] 27))
  have hb2 := Blk.new (w.alloc (.cells #[.string p.1, .string p.2] 27)) 27 #[.string p.1, .string p.2]
  have hsz : (w.alloc (.cells #[.string p.1, .string p.2] 27)).heap.size = w.heap.size + 1 := by simp
  rw [hsz] at hb2
  unfold Pr.v
  clear hsz
  go_enter Try.func61, Try.ntmps61
  go_wp2_with fail
  have hsz : ((w.alloc (.cells #[.string p.1, .string p.2] 27)).alloc (.cells #[.string p.1, .string p.2] 27)).heap.size = w.heap.size + 2 := by simp
  generalize (w.alloc (.cells #[.string p.1, .string p.2] 27)).alloc (.cells #[.string p.1, .string p.2] 27) = W at *
  refine (ins_pairs base i xs.length 1 (w.heap.size + 1) v (flat xs) [.string p.1, .string p.2] W hh hi (by decide) (by omega) (flat_one xs) (by simp [Value.oneCell']) hb2 rfl (by omega) (fun e => by have := hlt _ e; omega)).mono ?_
  rintro e w' ⟨v', rfl, ho, hat, hK⟩
  rw [flat_ins] at ho
  clear hh hb2
  go_wp2_with fail
  go_ret
  refine ⟨v', rfl, ?_, fun g hg => ?_, hk.trans hK⟩
  · unfold Own; rw [insAt_len xs i p hi]; exact ho
  · rcases hat with e | e
    · exact .inl (e ▸ hg)
    · rw [e] at hg; exact .inr (by have := Option.some.inj hg; omega)
theorem place_pairs (base i : Nat) (rep : Bool) (v : Value) (xs : List Pr) (p : Pr) (w : World) (h : Own base w v xs) (hi : i ≤ xs.length) (hr : rep = true → i < xs.length) (hn : xs.length ≤ 900) (hb : base ≤ w.heap.size) :
    Calls Try.prog 61 #[v, .int .i64 i, .bool rep, p.v] w (PlaceP base v (putAt xs i rep p) w) := by
  cases rep with
  | true => exact place_pairs_yes base i v xs p w h (hr rfl) hn
  | false => exact place_pairs_no base i v xs p w h hi hn hb
set_option maxRecDepth 100000 in
set_option maxHeartbeats 2000000 in
theorem place_kids_yes (base i k : Nat) (v : Value) (xs : List Nat) (w : World) (h : OwnK base w v xs) (hi : i < xs.length) (hn : xs.length ≤ 900) :
    Calls Try.prog 73 #[v, .int .i64 i, .bool true, at0 k] w (PlaceK base v (xs.set i k) w) := by
  obtain ⟨g, cap, cur, rfl, hg, hB, hc, hcm, hs, ht⟩ := own_blk h (by omega)
  have hh : w.ownsRow base 39 1 (.slice (some ⟨g, 0, none⟩) xs.length cap) xs.length (kcs xs) := h
  have c0 := hh.cellAt i (by omega)
  have f0 := hh.frozenAt i
  have hget : (kcs xs)[i]? = some (at0 xs[i]) := by simp [kcs, hi]
  rw [hget] at c0
  have s1 := (hh.stored i (at0 k)).1
  have e1 : (kcs xs).set i (at0 k) = kcs (xs.set i k) := by simp [kcs, List.map_set]
  rw [e1] at s1
  have B2 : (i : Int) < (xs.length : Int) := by omega
  clear h hB hs ht hget e1
  unfold at0 at *
  go_enter Try.func73, Try.ntmps73
  go_wp2_with fail
  go_ret
  refine ⟨.slice (some ⟨g, 0, none⟩) xs.length cap, rfl, ?_, fun g hg => .inl hg, (Keep.refl _ w).setCell (by simp [Value.ownBlock]) _⟩
  unfold OwnK
  rw [List.length_set]
  exact s1
set_option maxRecDepth 100000 in
set_option maxHeartbeats 2000000 in
theorem place_kids_no (base i k : Nat) (v : Value) (xs : List Nat) (w : World) (h : OwnK base w v xs) (hi : i ≤ xs.length) (hn : xs.length ≤ 900) (hb : base ≤ w.heap.size) :
    Calls Try.prog 73 #[v, .int .i64 i, .bool false, at0 k] w (PlaceK base v (insAt xs i k) w) := by
  have hlt := fun k hk => (World.ownsRow.lt h k hk).2
  have hh : (w.alloc (.cells #[at0 k] 39)).ownsRow base 39 1 v xs.length (kcs xs) := World.ownsRow.alloc h _
  have hk := (Keep.refl v.ownBlock.toList w).alloc (.cells #[at0 k] 39)
  have hb2 := Blk.new w 39 #[at0 k]
  unfold at0 at *
  go_enter Try.func73, Try.ntmps73
  go_wp2_with fail
  have hsz : (w.alloc (.cells #[.pointer (some ⟨k, 0, none⟩)] 39)).heap.size = w.heap.size + 1 := by simp
  generalize w.alloc (.cells #[.pointer (some ⟨k, 0, none⟩)] 39) = W at *
  refine (ins_kids base i xs.length 1 w.heap.size v (kcs xs) [at0 k] W hh hi (by decide) (by omega) (kcs_one xs) (by simp [Value.oneCell', at0]) hb2 rfl (by omega) (fun e => by have := hlt _ e; omega)).mono ?_
  rintro e w' ⟨v', rfl, ho, hat, hK⟩
  rw [kcs_ins] at ho
  clear hh hb2
  go_wp2_with fail
  go_ret
  refine ⟨v', rfl, ?_, fun g hg => ?_, hk.trans hK⟩
  · unfold OwnK; rw [insAt_len xs i k hi]; exact ho
  · rcases hat with e | e
    · exact .inl (e ▸ hg)
    · rw [e] at hg; exact .inr (by have := Option.some.inj hg; omega)
theorem place_kids (base i k : Nat) (rep : Bool) (v : Value) (xs : List Nat) (w : World) (h : OwnK base w v xs) (hi : i ≤ xs.length) (hr : rep = true → i < xs.length) (hn : xs.length ≤ 900) (hb : base ≤ w.heap.size) :
    Calls Try.prog 73 #[v, .int .i64 i, .bool rep, at0 k] w (PlaceK base v (putAt xs i rep k) w) := by
  cases rep with
  | true => exact place_kids_yes base i k v xs w h (hr rfl) hn
  | false => exact place_kids_no base i k v xs w h hi hn hb

/-- a copy of a row: nil of nil, else a new one -/
theorem own_nil_or {w : World} {base : Nat} {e : TypeId} {size n : Nat} {v : Value} {xs : List Value} (h : w.ownsRow base e size v n xs) : (v = .slice none 0 0 ∧ n = 0) ∨ ∃ g cap, v = .slice (some ⟨g, 0, none⟩) n cap := by
  rcases h.2 with h1 | ⟨g, cap, cur, h1, _⟩
  · exact .inl h1
  · exact .inr ⟨g, cap, h1⟩
def CloneP (xs : List Pr) (w : World) (e : Ending) (w' : World) : Prop := ∃ v, e = .returned v ∧ Own w.heap.size w' v xs ∧ Below w.heap.size w w'
def CloneK (xs : List Nat) (w : World) (e : Ending) (w' : World) : Prop := ∃ v, e = .returned v ∧ OwnK w.heap.size w' v xs ∧ Below w.heap.size w w'
theorem clone_nil (w : World) : Calls Try.prog 52 #[.slice none 0 0] w fun e w' => e = .returned (.slice none 0 0) ∧ w = w' := by
  have hnl := fun w => run_eql_slice_nil (P := Try.prog) w 40 27 none 0 0 0 0 Try.underlying40
  go_enter Try.func52, Try.ntmps52
  go_wp2_with fail
  go_ret
  exact ⟨rfl, rfl⟩
theorem clone_pairs (base : Nat) (v : Value) (xs : List Pr) (w : World) (h : Own base w v xs) (hn : xs.length ≤ 900) : Calls Try.prog 52 #[v] w (CloneP xs w) := by
  obtain ⟨A, c, rfl, hR, hA⟩ := h.rd
  rcases own_nil_or h with ⟨h1, h0⟩ | ⟨g, cap, h1⟩
  · rw [h1]
    obtain rfl := List.length_eq_zero_iff.1 h0
    refine (clone_nil w).mono ?_
    rintro e w' ⟨rfl, rfl⟩
    exact ⟨_, rfl, World.ownsRow_nil _ _ _ _, Below.refl _ _⟩
  · simp only [Value.slice.injEq, true_and] at h1
    obtain ⟨rfl, rfl⟩ := h1
    refine (clone_any g 0 c xs w hR (by omega)).mono ?_
    rintro e w' ⟨g', c', rfl, hO, hB⟩
    exact ⟨_, rfl, hO, hB⟩
theorem clone_knil (w : World) : Calls Try.prog 53 #[.slice none 0 0] w fun e w' => e = .returned (.slice none 0 0) ∧ w = w' := by
  have hnl := fun w => run_eql_slice_nil (P := Try.prog) w 31 39 none 0 0 0 0 Try.underlying31
  go_enter Try.func53, Try.ntmps53
  go_wp2_with fail
  go_ret
  exact ⟨rfl, rfl⟩
theorem ownk_lit (w : World) : w.alloc (.cells #[] 39) |>.ownsRow w.heap.size 39 1 (.slice (some ⟨w.heap.size, 0, none⟩) 0 0) 0 [] :=
  World.ownsRow_lit w #[] 0 (Nat.le_refl _) (Nat.zero_le _) rfl
set_option maxHeartbeats 2000000 in
theorem clone_kids (base : Nat) (v : Value) (xs : List Nat) (w : World) (h : OwnK base w v xs) (hn : xs.length ≤ 900) : Calls Try.prog 53 #[v] w (CloneK xs w) := by
  rcases own_nil_or h with ⟨h1, h0⟩ | ⟨g, cap, h1⟩
  · rw [h1]
    obtain rfl := List.length_eq_zero_iff.1 h0
    refine (clone_knil w).mono ?_
    rintro e w' ⟨rfl, rfl⟩
    exact ⟨_, rfl, World.ownsRow_nil _ _ _ _, Below.refl _ _⟩
  · subst h1
    obtain ⟨i0, hi, hz0, hz1, hz2⟩ := info_parts info39
    have hh : (w.alloc (.cells #[] 39)).ownsRow base 39 1 (.slice (some ⟨g, 0, none⟩) xs.length cap) xs.length (kcs xs) := World.ownsRow.alloc h _
    have hcells : ∀ j u, (kcs xs)[j]? = some u → (w.alloc (.cells #[] 39)).cell? ((⟨g, 0, none⟩ : Addr).add j) = some u := fun j u hu => by
      have hl := (List.getElem?_eq_some_iff.1 hu).1
      have : (kcs xs).length = xs.length := by simp [kcs]
      rw [addr_at, Nat.zero_add, hh.cellAt j (by omega)]; exact hu
    have hkl : (kcs xs).length = xs.length * 1 := by simp [kcs]
    have hlit := ownk_lit w
    have hnl := fun w => run_eql_slice_nil (P := Try.prog) w 31 39 (some ⟨g, 0, none⟩) xs.length cap 0 0 Try.underlying31
    clear hh h
    go_enter Try.func53, Try.ntmps53
    go_wp2_with (at_builtin; refine wpList_append_own _ rfl _ _ 31 rfl w.heap.size 39 i0 _ 1 8 Try.underlying31 hi hz0 hz1 hz2 zsz_kids (by decide) _ _ _ rfl hlit ⟨g, 0, none⟩ xs.length cap (kcs xs) rfl hkl hcells (kcs_one xs) (by unfold maxLen; omega) (by omega) (by simp) ?_; intro v' wa hown' hgrow hnil)
    go_ret
    have hB : Below w.heap.size w wa := ((Below.refl _ w).alloc (Nat.le_refl _) _).grown hgrow (by simp) (own_ge hlit)
    refine ⟨v', rfl, ?_, hB⟩
    unfold OwnK
    simpa using hown'
end Go.Proofs.Ytgldgdpgbfejmaa
