/- The reference's nodes as cells of a row: plain mathematics. -/
import Derived.Test.YtgldgdpgbfejmaaNp
import Derived.Deep.MidRow
namespace Go.Proofs.Ytgldgdpgbfejmaa
open Go.RowKit Go.Lib
set_option linter.unusedVariables false
set_option linter.unusedSimpArgs false
/-- a node as the reference has it: its children by their places, its owner by its number -/
structure RN where
  bk : Bool
  S : Slots
  L : List Pr
  ow : Nat
def Sl.isN : Sl → Int
  | .no => 0
  | .pr _ => 1
  | .kd _ => 2
def Sl.prN : Sl → Pr
  | .pr p => p
  | _ => (⟨#[]⟩, ⟨#[]⟩)
def Sl.kdN : Sl → Nat
  | .kd k => k
  | _ => 0
/-- the j-th cell of a node -/
def rcell (r : RN) (vl : Value) (j : Nat) : Value :=
  if j = 0 then .bool r.bk
  else if j < 33 then .int .i64 (r.S (j - 1)).isN
  else if j < 97 then (if (j - 33) % 2 = 0 then .string (r.S ((j - 33) / 2)).prN.1 else .string (r.S ((j - 33) / 2)).prN.2)
  else if j < 129 then .int .i64 ((r.S (j - 97)).kdN : Nat)
  else if j = 129 then vl
  else .int .i64 (r.ow : Nat)
def rcells (r : RN) (vl : Value) : List Value := (List.range 131).map (rcell r vl)
theorem rcells_len (r : RN) (vl : Value) : (rcells r vl).length = 131 := by simp [rcells]
theorem rcells_get (r : RN) (vl : Value) (j : Nat) (h : j < 131) : (rcells r vl)[j]? = some (rcell r vl j) := by
  unfold rcells
  rw [List.getElem?_map, List.getElem?_range h]; rfl
theorem rcell_bk (r : RN) (vl : Value) : rcell r vl 0 = .bool r.bk := rfl
theorem rcell_is (r : RN) (vl : Value) (i : Nat) (h : i < 32) : rcell r vl (1 + i) = .int .i64 (r.S i).isN := by
  unfold rcell
  rw [if_neg (by omega), if_pos (by omega), show 1 + i - 1 = i by omega]
theorem rcell_p1 (r : RN) (vl : Value) (i : Nat) (h : i < 32) : rcell r vl (33 + i * 2) = .string (r.S i).prN.1 := by
  unfold rcell
  rw [if_neg (by omega), if_neg (by omega), if_pos (by omega), if_pos (by omega), show (33 + i * 2 - 33) / 2 = i by omega]
theorem rcell_p2 (r : RN) (vl : Value) (i : Nat) (h : i < 32) : rcell r vl (33 + i * 2 + 1) = .string (r.S i).prN.2 := by
  unfold rcell
  rw [if_neg (by omega), if_neg (by omega), if_pos (by omega), if_neg (by omega), show (33 + i * 2 + 1 - 33) / 2 = i by omega]
theorem rcell_k (r : RN) (vl : Value) (i : Nat) (h : i < 32) : rcell r vl (97 + i) = .int .i64 ((r.S i).kdN : Nat) := by
  unfold rcell
  rw [if_neg (by omega), if_neg (by omega), if_neg (by omega), if_pos (by omega), show 97 + i - 97 = i by omega]
theorem rcell_l (r : RN) (vl : Value) : rcell r vl 129 = vl := rfl
theorem rcell_ow (r : RN) (vl : Value) : rcell r vl 130 = .int .i64 (r.ow : Nat) := rfl
theorem rcells_ext (r r' : RN) (vl vl' : Value) (cs : List Value) (hl : cs.length = 131) (h : ∀ j, j < 131 → cs[j]? = some (rcell r' vl' j)) : cs = rcells r' vl' := by
  apply List.ext_getElem?
  intro j
  rcases Nat.lt_or_ge j 131 with hj | hj
  · rw [h j hj, rcells_get r' vl' j hj]
  · rw [List.getElem?_eq_none (by omega), List.getElem?_eq_none (by rw [rcells_len]; omega)]
/-- a chunk set: its four cells -/
theorem rcells_set (r : RN) (vl : Value) (i : Nat) (x : Sl) (h : i < 32) :
    ((((rcells r vl).set (1 + i) (.int .i64 x.isN)).set (33 + i * 2) (.string x.prN.1)).set (33 + i * 2 + 1) (.string x.prN.2)).set (97 + i) (.int .i64 (x.kdN : Nat)) = rcells { r with S := r.S.put i x } vl := by
  refine rcells_ext r _ vl vl _ (by simp [rcells_len]) fun j hj => ?_
  have hb := rcells_get r vl j hj
  simp only [List.getElem?_set, List.length_set, rcells_len]
  by_cases e1 : 97 + i = j
  · subst e1
    rw [if_pos rfl, if_pos (by omega), rcell_k _ _ _ h]
    simp [Slots.put]
  · rw [if_neg e1]
    by_cases e2 : 33 + i * 2 + 1 = j
    · subst e2
      rw [if_pos rfl, if_pos (by omega), rcell_p2 _ _ _ h]
      simp [Slots.put]
    · rw [if_neg e2]
      by_cases e3 : 33 + i * 2 = j
      · subst e3
        rw [if_pos rfl, if_pos (by omega), rcell_p1 _ _ _ h]
        simp [Slots.put]
      · rw [if_neg e3]
        by_cases e4 : 1 + i = j
        · subst e4
          rw [if_pos rfl, if_pos (by omega), rcell_is _ _ _ h]
          simp [Slots.put]
        · rw [if_neg e4, hb]
          congr 1
          unfold rcell Slots.put
          simp only []
          by_cases h0 : j = 0
          · simp [h0]
          · rw [if_neg h0, if_neg h0]
            by_cases h1 : j < 33
            · rw [if_pos h1, if_pos h1, if_neg (by omega)]
            · rw [if_neg h1, if_neg h1]
              by_cases h2 : j < 97
              · have hne : ¬ ((j - 33) / 2 = i) := by omega
                simp only [if_pos h2, if_neg hne]
              · rw [if_neg h2, if_neg h2]
                by_cases h3 : j < 129
                · rw [if_pos h3, if_pos h3, if_neg (by omega)]
                · rw [if_neg h3, if_neg h3]
theorem rcells_setL (r : RN) (vl vl' : Value) (L : List Pr) : (rcells r vl).set 129 vl' = rcells { r with L := L } vl' := by
  refine rcells_ext r _ vl vl' _ (by simp [rcells_len]) fun j hj => ?_
  rw [List.getElem?_set, rcells_len]
  by_cases e : 129 = j
  · subst e
    rw [if_pos rfl, if_pos (by omega)]; rfl
  · rw [if_neg e, rcells_get r vl j hj]
    congr 1
    unfold rcell
    simp only []
    repeat (first | rfl | (split <;> first | rfl | omega | skip))
theorem rcells_setOw (r : RN) (vl : Value) (o : Nat) : (rcells r vl).set 130 (.int .i64 o) = rcells { r with ow := o } vl := by
  refine rcells_ext r _ vl vl _ (by simp [rcells_len]) fun j hj => ?_
  rw [List.getElem?_set, rcells_len]
  by_cases e : 130 = j
  · subst e
    rw [if_pos rfl, if_pos (by omega)]; rfl
  · rw [if_neg e, rcells_get r vl j hj]
    congr 1
    unfold rcell
    simp only []
    repeat (first | rfl | (split <;> first | rfl | omega | skip))
theorem rcells_one (r : RN) (vl : Value) (hv : vl.oneCell' = true) : ∀ u ∈ rcells r vl, u.oneCell' = true := by
  intro u hu
  obtain ⟨j, hj⟩ := List.getElem?_of_mem hu
  have hl := (List.getElem?_eq_some_iff.1 hj).1
  rw [rcells_len] at hl
  rw [rcells_get r vl j hl] at hj
  obtain rfl := Option.some.inj hj
  unfold rcell
  repeat (first | rfl | exact hv | split)
/-- the nodes, one behind the other -/
def rrow (ns : List (RN × Value)) : List Value := ns.flatMap fun n => rcells n.1 n.2
theorem rrow_len (ns : List (RN × Value)) : (rrow ns).length = ns.length * 131 := by
  induction ns with
  | nil => rfl
  | cons n ns ih =>
    unfold rrow at *
    rw [List.flatMap_cons, List.length_append, ih, rcells_len, List.length_cons]; omega
theorem rrow_get (ns : List (RN × Value)) (k : Nat) (n : RN × Value) (h : ns[k]? = some n) (j : Nat) (hj : j < 131) : (rrow ns)[k * 131 + j]? = some (rcell n.1 n.2 j) := by
  induction ns generalizing k with
  | nil => simp at h
  | cons m ns ih =>
    unfold rrow at *
    rw [List.flatMap_cons]
    cases k with
    | zero =>
      simp at h; subst h
      rw [Nat.zero_mul, Nat.zero_add, List.getElem?_append_left (by rw [rcells_len]; exact hj)]
      exact rcells_get _ _ _ hj
    | succ k =>
      simp at h
      rw [List.getElem?_append_right (by rw [rcells_len]; omega), rcells_len, show (k + 1) * 131 + j - 131 = k * 131 + j by omega]
      exact ih k h
theorem rrow_snoc (ns : List (RN × Value)) (n : RN × Value) : rrow (ns ++ [n]) = rrow ns ++ rcells n.1 n.2 := by simp [rrow]
/-- one cell of one node -/
theorem rrow_set (ns : List (RN × Value)) (k : Nat) (n n' : RN × Value) (h : ns[k]? = some n) (cs : List Value → List Value) (hl : ∀ l, (cs l).length = l.length) (hc : cs (rcells n.1 n.2) = rcells n'.1 n'.2) :
    (rrow ns).take (k * 131) ++ (cs (((rrow ns).drop (k * 131)).take 131) ++ (rrow ns).drop (k * 131 + 131)) = rrow (ns.set k n') := by
  induction ns generalizing k with
  | nil => simp at h
  | cons m ns ih =>
    cases k with
    | zero =>
      simp at h; subst h
      have e : rrow (m :: ns) = rcells m.1 m.2 ++ rrow ns := rfl
      rw [e, Nat.zero_mul, List.take_zero, List.drop_zero, List.take_append_of_le_length (by rw [rcells_len]; exact Nat.le_refl _), List.take_of_length_le (by rw [rcells_len]; exact Nat.le_refl _), hc, List.drop_append_of_le_length (by rw [rcells_len]; omega), List.drop_of_length_le (by rw [rcells_len]; omega)]
      simp [rrow]
    | succ k =>
      simp at h
      have e : rrow (m :: ns) = rcells m.1 m.2 ++ rrow ns := rfl
      have e2 : rrow ((m :: ns).set (k + 1) n') = rcells m.1 m.2 ++ rrow (ns.set k n') := rfl
      have hm := rcells_len m.1 m.2
      rw [e, e2, ← ih k h]
      rw [show (k + 1) * 131 = (rcells m.1 m.2).length + k * 131 by omega, List.take_length_add_append, List.drop_length_add_append, Nat.add_assoc, List.drop_length_add_append, List.append_assoc]
end Go.Proofs.Ytgldgdpgbfejmaa
/- The reference's nodes in memory; its own. -/
namespace Go.Proofs.Ytgldgdpgbfejmaa
open Go.RowKit Go.Lib
set_option linter.unusedVariables false
set_option linter.unusedSimpArgs false
def boolsV (l : List Bool) : List Value := l.map Value.bool
theorem boolsV_get (q : List Bool) (j : Nat) (n : Bool) (h : q[j]? = some n) : (boolsV q)[j]? = some (.bool n) := by simp [boolsV, h]
theorem size85 : (Try.prog.info? 85).map (·.size) = some 131 := by kernel_rfl
structure RefA (base : Nat) (w : World) (xb : Nat) (Nv Lv : Value) (ns : List (RN × Value)) (lv : List Bool) : Prop where
  blk : Blk w xb 89 #[Nv, Lv]
  ge : base ≤ xb
  nodes : w.ownsRow base 85 131 Nv ns.length (rrow ns)
  live : w.ownsRow base 4 1 Lv lv.length (boolsV lv)
  ls : ∀ n ∈ ns, OwnR base w n.2 n.1.L
/-- what a call of the reference leaves alone -/
structure KeepA (base : Nat) (w w' : World) : Prop where
  below : Below base w w'
  block : ∀ b, b < w.heap.size → (∀ cs fr, w.heap[b]? ≠ some (.cells cs 85 fr)) → (∀ cs fr, w.heap[b]? ≠ some (.cells cs 89 fr)) → w'.heap[b]? = w.heap[b]?
theorem RefA.node {base : Nat} {w : World} {xb : Nat} {Nv Lv : Value} {ns : List (RN × Value)} {lv : List Bool} (h : RefA base w xb Nv Lv ns lv) (k : Nat) (n : RN × Value) (hk : ns[k]? = some n) :
    ∃ g cap, Nv = .slice (some ⟨g, 0, none⟩) ns.length cap ∧ k < ns.length ∧ w.rangeAt g (k * 131) (rcells n.1 n.2) ∧ ∀ j, w.frozen? ⟨g, j, none⟩ = false := by
  obtain ⟨hl, he⟩ := List.getElem?_eq_some_iff.1 hk
  obtain ⟨g, cap, cur, e, hg, hB, hc, hcm, hs, ht⟩ := own_blk h.nodes (by omega)
  subst e
  refine ⟨g, cap, rfl, hl, fun j u hu => ?_, fun j => hB.frozen j⟩
  have hj := (List.getElem?_eq_some_iff.1 hu).1
  rw [rcells_len] at hj
  rw [rcells_get _ _ _ hj] at hu
  have hh : w.ownsRow base 85 131 (.slice (some ⟨g, 0, none⟩) ns.length cap) ns.length (rrow ns) := h.nodes
  rw [hh.cellAt _ (by omega), rrow_get ns k n hk j hj]
  exact hu
theorem RefA.cells {base : Nat} {w : World} {xb : Nat} {Nv Lv : Value} {ns : List (RN × Value)} {lv : List Bool} (h : RefA base w xb Nv Lv ns lv) : w.cell? ⟨xb, 0, none⟩ = some Nv ∧ w.cell? ⟨xb, 1, none⟩ = some Lv := ⟨h.blk.cell 0, h.blk.cell 1⟩
theorem RefA.liveAt {base : Nat} {w : World} {xb : Nat} {Nv Lv : Value} {ns : List (RN × Value)} {lv : List Bool} (h : RefA base w xb Nv Lv ns lv) (k : Nat) (b : Bool) (hk : lv[k]? = some b) :
    ∃ g cap, Lv = .slice (some ⟨g, 0, none⟩) lv.length cap ∧ k < lv.length ∧ w.cell? ⟨g, k, none⟩ = some (.bool b) := by
  obtain ⟨hl, he⟩ := List.getElem?_eq_some_iff.1 hk
  obtain ⟨g, cap, cur, e, hg, hB, hc, hcm, hs, ht⟩ := own_blk h.live (by omega)
  subst e
  have hh : w.ownsRow base 4 1 (.slice (some ⟨g, 0, none⟩) lv.length cap) lv.length (boolsV lv) := h.live
  exact ⟨g, cap, rfl, hl, by rw [hh.cellAt _ (by omega)]; exact boolsV_get lv k b hk⟩
/-- whether somebody may change a node in place -/
def liveB (who : Nat) (lv : List Bool) : Bool := decide (0 < who) && (lv[who]?.getD false)
def refOwn (r : RN) (who : Nat) (lv : List Bool) : Bool := liveB who lv && decide (r.ow = who)
set_option maxRecDepth 100000 in
set_option maxHeartbeats 4000000 in
theorem own_same (base xb n who : Nat) (Nv Lv : Value) (ns : List (RN × Value)) (lv : List Bool) (r : RN × Value) (w : World) (h : RefA base w xb Nv Lv ns lv) (hr : ns[n]? = some r) (hw : 0 < who) (hl : lv[who]? = some true) (ho : r.1.ow = who) (hn : ns.length ≤ 1000) (hln : lv.length ≤ 1000) :
    Calls Try.prog 67 #[at0 xb, .int .i64 n, .int .i64 who] w fun e w' => e = .returned (.int .i64 n) ∧ w = w' := by
  obtain ⟨c0, c1⟩ := h.cells
  obtain ⟨g, cap, rfl, hlt, hrg, hfz⟩ := h.node n r hr
  obtain ⟨gl, cl, rfl, hll, hcl⟩ := h.liveAt who true hl
  have hcw : w.cell? ⟨g, n * 131 + 130, none⟩ = some (.int .i64 who) := by
    have := hrg 130 _ (rcells_get r.1 r.2 130 (by omega))
    rw [this, rcell_ow, ho]
  have B1 : (who : Int) < (lv.length : Int) := by omega
  have B2 : (n : Int) < (ns.length : Int) := by omega
  have B3 : (0 : Int) < (who : Int) := by omega
  clear h hrg hfz hr hl ho
  unfold at0
  go_enter Try.func67, Try.ntmps67
  go_wp2_with fail
  go_ret
  exact ⟨rfl, rfl⟩
end Go.Proofs.Ytgldgdpgbfejmaa
