/- Maps whose keys are pointers: asked, and written, also where the key is there. -/
import Derived.Test.YtchimfgbdfmegabHab
import Derived.ChangeMaps5
import Derived.Test.YtchimfgbdfmegabHak
import Derived.Laws.AppendOwnNone
import Derived.Test.YtchimfgbdfmegabHag
namespace Go.Proofs.Ytchimfgbdfmegab
open Go.RowKit Go.Lib Go.Conc
set_option linter.unusedVariables false
set_option maxRecDepth 100000
set_option linter.unusedSimpArgs false
set_option linter.unnecessarySimpa false
set_option maxRecDepth 100000
/-- what a map has, in the order in which it came -/
def PMap (w : World) (M : Nat) (l : List (Nat × Value)) : Prop := ∃ es clock, w.heap[M]? = some (.map es clock) ∧ es.toList.map (fun e => (e.key, e.val)) = l.map fun p => (at0 p.1, p.2)
def lookM : List (Nat × Value) → Nat → Option Value
  | [], _ => none
  | p :: l, b => if p.1 = b then some p.2 else lookM l b
def putM : List (Nat × Value) → Nat → Value → List (Nat × Value)
  | [], b, v => [(b, v)]
  | p :: l, b, v => if p.1 = b then (b, v) :: l else p :: putM l b v
theorem look_put (l : List (Nat × Value)) (b : Nat) (v : Value) (a : Nat) : lookM (putM l b v) a = if a = b then some v else lookM l a := by
  induction l with
  | nil => simp only [putM, lookM]; by_cases h : b = a <;> simp [h, eq_comm]
  | cons p l ih =>
    simp only [putM]
    by_cases h : p.1 = b
    · rw [if_pos h]
      simp only [lookM, h]
      by_cases h2 : b = a
      · simp [h2]
      · simp [h2, Ne.symm h2]
    · rw [if_neg h]
      simp only [lookM, ih]
      by_cases h2 : p.1 = a
      · rw [if_pos h2, if_pos h2, if_neg (fun e => h (h2.trans e))]
      · rw [if_neg h2, if_neg h2]
theorem putM_keys {l : List (Nat × Value)} {b : Nat} {v : Value} {p : Nat × Value} (h : p ∈ putM l b v) : p.1 = b ∨ p ∈ l := by
  induction l with
  | nil => simp [putM] at h; left; rw [h]
  | cons q l ih =>
    simp only [putM] at h
    split at h
    · rcases List.mem_cons.1 h with h | h
      · left; rw [h]
      · right; simp [h]
    · rcases List.mem_cons.1 h with h | h
      · right; simp [h]
      · rcases ih h with h | h
        · exact .inl h
        · right; simp [h]
section
variable {P : Program} {k elem : TypeId} {j : TypeInfo} {w w' : World} {b M : Nat} {l : List (Nat × Value)}
theorem PMap.below (h : PMap w M l) (hb : Below w.heap.size w w') : PMap w' M l := by
  obtain ⟨es, cl, h1, h2⟩ := h
  have hlt : M < w.heap.size := (Array.getElem?_eq_some_iff.1 h1).1
  exact ⟨es, cl, (hb.block M hlt).trans h1, h2⟩
theorem PMap.lt (h : PMap w M l) : M < w.heap.size := by
  obtain ⟨es, cl, h1, h2⟩ := h
  exact (Array.getElem?_eq_some_iff.1 h1).1
theorem PMap.keep {X : List Nat} (h : PMap w M l) (hk : Keep X w w') (hM : M ∉ X) : PMap w' M l := by
  obtain ⟨es, cl, h1, h2⟩ := h
  have hlt : M < w.heap.size := (Array.getElem?_eq_some_iff.1 h1).1
  exact ⟨es, cl, (hk.block M hlt hM).trans h1, h2⟩
theorem PMap.notCells (h : PMap w M l) {cs : Array Value} {t : TypeId} {fr : Nat × Nat} : w.heap[M]? ≠ some (.cells cs t fr) := by
  obtain ⟨es, cl, h1, h2⟩ := h
  rw [h1]; simp
theorem PMap.new (w : World) : PMap (w.alloc (.map #[] 0)) w.heap.size [] := ⟨#[], 0, (MapKept.heap_alloc w _).1, rfl⟩
theorem eq_ptr_other (hu : P.underlying k = some (.pointer elem)) (hi : P.info? elem = some j) (hs : j.size ≠ 0) {a b : Nat} {ca cb : Array Value} {ta tb : TypeId} (hne : a ≠ b) (ha : Blk w a ta ca) (hb : Blk w b tb cb) : (Op.equal k (at0 a) (at0 b)).run P w = .ok false w := by
  unfold at0
  have h : ∀ d : Nat, (Op.equalIn (d + 1) k (.pointer (some ⟨a, 0, none⟩)) (.pointer (some ⟨b, 0, none⟩))).run P w = .ok false w := fun d => by
    simp [Op.equalIn, run_underlying hu, sizeOf, typeInfo, hi, hs, run_sameAddr_other w (a := ⟨a, 0, none⟩) (b := ⟨b, 0, none⟩) (fun e => hne (congrArg Addr.block e)) ha hb]
  simp [Op.equal, Op.maxDepth, h 9999]
theorem eq_ptr_same (hu : P.underlying k = some (.pointer elem)) (hi : P.info? elem = some j) (hs : j.size ≠ 0) (a : Nat) : (Op.equal k (at0 a) (at0 a)).run P w = .ok true w := by
  unfold at0
  have h : ∀ d : Nat, (Op.equalIn (d + 1) k (.pointer (some ⟨a, 0, none⟩)) (.pointer (some ⟨a, 0, none⟩))).run P w = .ok true w := fun d => by
    simp [Op.equalIn, run_underlying hu, sizeOf, typeInfo, hi, hs, run_sameAddr_same]
  simp [Op.equal, Op.maxDepth, h 9999]
/-- where a key stands -/
def posM : List (Nat × Value) → Nat → Nat → Option (Nat × Value)
  | [], _, _ => none
  | p :: l, b, i => if p.1 = b then some (i, p.2) else posM l b (i + 1)
theorem pos_look (l : List (Nat × Value)) (b i : Nat) : (posM l b i).map (·.2) = lookM l b := by
  induction l generalizing i with
  | nil => rfl
  | cons p l ih => simp only [posM, lookM]; split <;> simp [ih]
theorem ask_any (hu : P.underlying k = some (.pointer elem)) (hi : P.info? elem = some j) (hs : j.size ≠ 0) {tb : TypeId} {cb : Array Value} (hb : Blk w b tb cb) :
    ∀ (l : List (Nat × Value)) (es : List MapEntry) (i : Nat), es.map (fun e => (e.key, e.val)) = l.map (fun p => (at0 p.1, p.2)) → (∀ p ∈ l, ∃ t c, Blk w p.1 t c) → (Instr.findAsking k (at0 b) es i).run P w = .ok (posM l b i) w
  | [], [], i, _, _ => by simp [Instr.findAsking, posM]
  | [], e :: es, i, h, _ => by simp at h
  | p :: l, [], i, h, _ => by simp at h
  | p :: l, e :: es, i, h, hl => by
    simp only [List.map_cons, List.cons.injEq, Prod.mk.injEq] at h
    have ih := ask_any hu hi hs hb l es (i + 1) h.2 fun x hx => hl x (by simp [hx])
    by_cases hpb : p.1 = b
    · have := eq_ptr_same (P := P) (w := w) hu hi hs b
      simp [Instr.findAsking, h.1.1, hpb, this, posM, h.1.2]
    · obtain ⟨t, c, hB⟩ := hl p (by simp)
      have := eq_ptr_other (P := P) hu hi hs (Ne.symm hpb) hb hB
      simp [Instr.findAsking, h.1.1, this, ih, posM, hpb]
theorem find_any' (hu : P.underlying k = some (.pointer elem)) (hi : P.info? elem = some j) (hs : j.size ≠ 0) {tb : TypeId} {cb : Array Value} (hb : Blk w b tb cb) (es : List MapEntry) (h : es.map (fun e => (e.key, e.val)) = l.map fun p => (at0 p.1, p.2)) (hl : ∀ p ∈ l, ∃ t c, Blk w p.1 t c) :
    (Instr.findKey k (at0 b) es).run P w = .ok (posM l b 0) w := by
  cases es with
  | nil =>
    cases l with
    | nil => simp [Instr.findKey, run_underlying hu, Instr.findNow, posM]
    | cons p l => simp at h
  | cons e es =>
    have hn : Instr.findNow (.pointer elem) (at0 b) (e :: es) 0 = none := by
      cases l with
      | nil => simp at h
      | cons p l =>
        simp only [List.map_cons, List.cons.injEq, Prod.mk.injEq] at h
        unfold Instr.findNow
        rw [h.1.1]
        rfl
    simp [Instr.findKey, run_underlying hu, hn, ask_any hu hi hs hb l (e :: es) 0 h hl]
theorem checkKey_ptr (hu : P.underlying k = some (.pointer elem)) (em : Bool) (v : Value) : (Instr.checkKey em 10000 k v).run P w = .ok () w := by
  have h : ∀ d : Nat, (Instr.checkKey em (d + 1) k v).run P w = .ok () w := fun d => by
    simp [Instr.checkKey, run_underlying hu]
  exact h 9999
/-- a map is asked for a key: its value and whether it is there -/
theorem PMap.look {t e : TypeId} {z : Value} (h : PMap w M l) (ht : P.underlying t = some (.map k e)) (hu : P.underlying k = some (.pointer elem)) (hi : P.info? elem = some j) (hs : j.size ≠ 0) (hz : (zeroValue e).run P w = .ok z w) {tb : TypeId} {cb : Array Value} (hb : Blk w b tb cb) (hl : ∀ p ∈ l, ∃ t c, Blk w p.1 t c) (ok : Bool) :
    (Instr.lookup t (.map (some M)) (at0 b) ok).run P w = .ok (if ok then .tuple #[(lookM l b).getD z, .bool (lookM l b).isSome] else (lookM l b).getD z) w := by
  obtain ⟨es, cl, h1, h2⟩ := h
  have hf := find_any' (P := P) hu hi hs hb es.toList h2 hl
  have hp := pos_look l b 0
  cases hq : posM l b 0 with
  | none =>
    rw [hq] at hf hp
    rw [← hp]
    cases ok <;> simp [Instr.lookup, run_underlying ht, MapKept.run_getObj_map h1, checkKey_ptr hu, hf, hz, Result.andThen]
  | some x =>
    rw [hq] at hf hp
    rw [← hp]
    cases ok <;> simp [Instr.lookup, run_underlying ht, MapKept.run_getObj_map h1, checkKey_ptr hu, hf, hz, Result.andThen]
theorem sameBits_ptr (b : Nat) : Instr.sameBits 10000 (at0 b) (at0 b) = true := by
  unfold at0
  have h : ∀ d, Instr.sameBits d (.pointer (some ⟨b, 0, none⟩)) (.pointer (some ⟨b, 0, none⟩)) = true := fun d => by
    cases d <;> simp [Instr.sameBits]
  exact h _
theorem pos_mod : ∀ (l : List (Nat × Value)) (es : List MapEntry) (i x : Nat) (u v : Value), es.map (fun e => (e.key, e.val)) = l.map (fun p => (at0 p.1, p.2)) → posM l b i = some (x, u) →
    ∃ y, x = i + y ∧ (∃ e, es[y]? = some e ∧ e.key = at0 b) ∧ (es.modify y fun e => { e with key := at0 b, val := v }).map (fun e => (e.key, e.val)) = (putM l b v).map (fun p => (at0 p.1, p.2))
  | [], es, i, x, u, v, _, h => by simp [posM] at h
  | p :: l, [], i, x, u, v, h, _ => by simp at h
  | p :: l, e :: es, i, x, u, v, h, hp => by
    simp only [List.map_cons, List.cons.injEq, Prod.mk.injEq] at h
    simp only [posM] at hp
    split at hp
    · rename_i hpb
      simp only [Option.some.injEq, Prod.mk.injEq] at hp
      refine ⟨0, by omega, ⟨e, rfl, by rw [h.1.1, hpb]⟩, ?_⟩
      simp [putM, hpb, h.2]
    · rename_i hpb
      obtain ⟨y, hy, ⟨e', he', hk⟩, hm⟩ := pos_mod l es (i + 1) x u v h.2 hp
      refine ⟨y + 1, by omega, ⟨e', by simpa using he', hk⟩, ?_⟩
      simp [putM, hpb, hm, h.1.1, h.1.2]
/-- .. and written -/
theorem PMap.put {t e : TypeId} {v : Value} (h : PMap w M l) (ht : P.underlying t = some (.map k e)) (hu : P.underlying k = some (.pointer elem)) (hi : P.info? elem = some j) (hs : j.size ≠ 0) {tb : TypeId} {cb : Array Value} (hb : Blk w b tb cb) (hl : ∀ p ∈ l, ∃ t c, Blk w p.1 t c) :
    ∃ w', (Instr.mapUpdate t (.map (some M)) (at0 b) v).run P w = .ok () w' ∧ PMap w' M (putM l b v) ∧ Keep [M] w w' ∧ w'.heap.size = w.heap.size := by
  obtain ⟨es, cl, h1, h2⟩ := h
  have hf := find_any' (P := P) hu hi hs hb es.toList h2 hl
  have hlt : M < w.heap.size := (Array.getElem?_eq_some_iff.1 h1).1
  cases hq : posM l b 0 with
  | none =>
    rw [hq] at hf
    refine ⟨ChangeMaps.setBlock w M (.map (es.push { key := at0 b, val := v, born := cl }) (cl + 1)), by simp [Instr.mapUpdate, run_underlying ht, MapKept.run_getObj_map h1, checkKey_ptr hu, hf, MapKept.run_setObj_map _ h1, Result.andThen, ChangeMaps.setBlock], ⟨_, _, ChangeMaps.heap_setBlock_same h1 _, ?_⟩, ⟨⟨rfl, rfl, rfl, by simp [ChangeMaps.setBlock], fun i hi => by omega⟩, fun i hi hx => ChangeMaps.heap_setBlock_other h1 _ (fun e => hx (by rw [e]; simp))⟩, by simp [ChangeMaps.setBlock]⟩
    have hno : ∀ (l : List (Nat × Value)) i, posM l b i = none → putM l b v = l ++ [(b, v)] := fun l => by
      induction l with
      | nil => intro i _; rfl
      | cons p l ih =>
        intro i h
        simp only [posM] at h
        split at h
        · cases h
        · rename_i hne
          simp only [putM, if_neg hne, ih _ h, List.cons_append]
    rw [hno l 0 hq]
    simp [h2]
  | some x =>
    obtain ⟨x, u⟩ := x
    rw [hq] at hf
    obtain ⟨y, hy, ⟨e', he', hk⟩, hm⟩ := pos_mod (b := b) l es.toList 0 x u v h2 hq
    have hxy : x = y := by omega
    subst hxy
    have hk' : ((es[x]?).map (·.key)).getD (at0 b) = at0 b := by
      have : es[x]? = some e' := by rw [← Array.getElem?_toList]; exact he'
      rw [this]; simp [hk]
    refine ⟨ChangeMaps.setBlock w M (.map (es.modify x fun e => { e with key := at0 b, val := v }) cl), by simp [Instr.mapUpdate, run_underlying ht, MapKept.run_getObj_map h1, checkKey_ptr hu, hf, hk', Instr.keyThatStays, sameBits_ptr, MapKept.run_setObj_map _ h1, Result.andThen, ChangeMaps.setBlock], ⟨_, _, ChangeMaps.heap_setBlock_same h1 _, ?_⟩, ⟨⟨rfl, rfl, rfl, by simp [ChangeMaps.setBlock], fun i hi => by omega⟩, fun i hi hx => ChangeMaps.heap_setBlock_other h1 _ (fun e => hx (by rw [e]; simp))⟩, by simp [ChangeMaps.setBlock]⟩
    rw [Array.toList_modify]
    exact hm
end
end Go.Proofs.Ytchimfgbdfmegab
/- branches and Canon of canonical trees. -/
namespace Go.Proofs.Ytchimfgbdfmegab
open Go.RowKit Go.Lib
set_option linter.unusedVariables false
set_option maxRecDepth 100000
set_option linter.unnecessarySimpa false
set_option linter.unusedSimpArgs false
set_option linter.unnecessarySimpa false
set_option maxRecDepth 100000
/-- children that can be read -/
def RdK (w : World) (v : Value) (M : List Nat) : Prop := (v = .slice none 0 0 ∧ M = []) ∨ ∃ ad c, v = .slice (some ad) M.length c ∧ M.length ≤ c ∧ ∀ j u, (kcs M)[j]? = some u → w.cell? (ad.add j) = some u
theorem OwnK.rdK {base : Nat} {w : World} {v : Value} {M : List Nat} (h : OwnK base w v M) : RdK w v M := by
  rcases h.2 with ⟨e, h0⟩ | ⟨g, cap, cur, e, _, _, hc, _⟩
  · exact .inl ⟨e, List.length_eq_zero_iff.1 h0⟩
  · refine .inr ⟨⟨g, 0, none⟩, cap, e, hc, fun j u hu => ?_⟩
    have hj := (List.getElem?_eq_some_iff.1 hu).1
    rw [show (kcs M).length = M.length by simp [kcs]] at hj
    subst e
    rw [addr_at, Nat.zero_add, World.ownsRow.cellAt h j (by omega)]
    exact hu
theorem wpList_appK {ops : Array Oper} {rest : List Oper} {o : Oper} {a : Act} {Q : Exit → Act → World → Prop} (w : World) (hgd : o.guard = none) (sl x : Operand)
    (ho : o.op = .call { callee := .builtin .append, args := #[sl, x], argTypes := #[45, 45] }) (base : Nat) (v v' : Value) (L M : List Nat) (hs : a.eval sl = v) (hx : a.eval x = v') (hv : OwnK base w v L) (hv' : RdK w v' M) (hl : L.length + M.length ≤ 10000000) (hb : base ≤ w.heap.size)
    (h : ∀ u w', OwnK base w' u (L ++ M) → w.grownBy w' v.ownBlock → wpList Try.prog ops Q rest (a.put o.dst u) w') : wpList Try.prog ops Q (o :: rest) a w := by
  obtain ⟨i0, hi, hz0, hz1, hz2⟩ := info_parts info30
  rcases hv' with ⟨h1, h0⟩ | ⟨ad, cap, rfl, _, hc⟩
  · subst h0
    subst h1
    refine wpList_append_own_none hgd sl x 45 ho base 26 i0 1 Try.underlying45 hi v L.length (kcs L) hs hv hx ?_
    exact h v w (by rw [List.append_nil]; exact hv) ⟨rfl, rfl, rfl, Nat.le_refl _, fun _ _ _ => rfl⟩
  · refine wpList_append_own_at w hgd sl x 45 ho base 26 i0 _ 1 8 Try.underlying45 hi hz0 hz1 hz2 zsz_kids (by decide) v L.length (kcs L) hs hv ad M.length cap (kcs M) hx (by simp [kcs]) hc (kcs_one M) (by unfold maxLen; omega) (by omega) hb ?_
    intro u w' hown hg _ _
    refine h u w' ?_ hg
    unfold OwnK
    rw [List.length_append, show kcs (L ++ M) = kcs L ++ kcs M by simp [kcs]]
    exact hown
theorem lastF (ks : List RX) (j : Nat) : True := trivial
/-- the byte ahead of the child j, as the program counts -/
def lastB (ks : List RX) (j : Nat) : Int := match j with | 0 => -1 | j + 1 => (fst? (rat ks j) : Int) - 1
theorem fst_pos {k : RX} (h : Kd k) : 1 ≤ fst? k := by
  cases hl : k.lab with
  | nil => exact absurd hl h.1
  | cons b s => rw [fst_cons hl]; omega
theorem last_lt {ks : List RX} (hk : ∀ k ∈ ks, Kd k) (hr : ks.Pairwise fun a b => fst? a < fst? b) {j : Nat} (h : j < ks.length) : ¬ ((fst? (rat ks j) : Int) - 1 ≤ lastB ks j) := by
  cases j with
  | zero => have := fst_pos (hk _ (rat_mem h)); show ¬ (_ ≤ (-1 : Int)); omega
  | succ j =>
    have h3 := List.pairwise_iff_getElem.1 hr j (j + 1) (by omega) h (by omega)
    have g1 := rat_get (ks := ks) (j := j) (by omega)
    have g2 := rat_get h
    rw [List.getElem?_eq_getElem (by omega)] at g1
    rw [List.getElem?_eq_getElem h] at g2
    rw [Option.some.inj g1, Option.some.inj g2] at h3
    show ¬ (_ ≤ (fst? (rat ks j) : Int) - 1)
    omega
set_option maxHeartbeats 2000000 in
theorem branches_true (P : Nat → Prop) (b : Nat) (t : RX) (w : World) (h : RadW P w b t) (hc : Can t) (hl : ∀ k ∈ t.kids, k.lab.length ≤ 1000) : Calls Try.prog 50 #[at0 b] w fun e w' => e = .returned (.bool true) ∧ Below w.heap.size w w' := by
  cases h with
  | @mk _ _ kv bs hN hPb hPk hK =>
  obtain ⟨A, c, hkv⟩ : ∃ A c, kv = .slice A bs.length c := by
    rcases hN.row.2 with ⟨e, h0⟩ | ⟨g, cap, cur, e, _⟩
    · exact ⟨none, 0, by rw [e, h0]⟩
    · exact ⟨_, _, e⟩
  subst hkv
  obtain ⟨o, lab, val, sh, e1, e2, hB, c0, c1, c2, c3, c4, c5⟩ := hN.cells
  have hlen := hN.len
  have hkf := kids_few hc
  obtain ⟨N, hNe⟩ : ∃ N, N = bs.length := ⟨_, rfl⟩
  have hN8 : N ≤ 800 := by omega
  have hNk : N = t.kids.length := by omega
  have HN := Lib.hid hN
  have HK := Lib.hid hK
  have HC := Lib.hid hc
  have HL := Lib.hid hl
  have HNE := Lib.hid hNe
  have HNK := Lib.hid hNk
  rw [← hNe] at c4
  clear hN hK hc hl hPb hPk hlen hkf hNe hNk hB e1 e2 c0 c1 c2 c3 c5
  unfold at0
  go_enter Try.func50, Try.ntmps50
  go_wp2_with fail
  go_loopw [3, 11] (fun vl vi wr => ∃ j : Nat, j ≤ N ∧ vi = .int .i64 j ∧ vl = .int .i64 (lastB t.kids j) ∧ Below w.heap.size w wr) (fun vl vi wr => N - (intOf vi).toNat)
  case atStart => exact ⟨0, by omega, rfl, rfl, Below.refl _ _⟩
  case round =>
    obtain ⟨j, hj, rfl, rfl, hB⟩ := hrel
    by_cases hlt : j < N
    · have hjb : j < bs.length := by rw [← HNE.out]; exact hlt
      have hjk : j < t.kids.length := by rw [← HNK.out]; exact hlt
      obtain ⟨g, q, e, d0⟩ := (HN.out.row.stay hB).at_ j hjb
      simp only [Value.slice.injEq] at e
      obtain ⟨rfl, -, -⟩ := e
      have hkb : bs[j]? = some (bs.getD j 0) := by rw [List.getD_eq_getElem?_getD, List.getElem?_eq_getElem hjb]; rfl
      have hkid := (HK.out j _ _ hkb (rat_get hjk)).stay hB
      have hkm := rat_mem hjk
      have kf := first_any P _ _ wr hkid (HL.out _ hkm)
      have hle := last_lt HC.out.kd HC.out.rises hjk
      have hkd := (HC.out.kd _ hkm).2
      have hnx : (fst? (rat t.kids j) : Int) - 1 = lastB t.kids (j + 1) := rfl
      cases hkid with
      | @mk _ _ kv2 bs2 hN2 _ _ _ =>
      obtain ⟨A2, q2, hkv2⟩ : ∃ A c, kv2 = .slice A bs2.length c := by
        rcases hN2.row.2 with ⟨e, h0⟩ | ⟨g', cap, cur, e, _⟩
        · exact ⟨none, 0, by rw [e, h0]⟩
        · exact ⟨_, _, e⟩
      subst hkv2
      have hl2 := hN2.len
      obtain ⟨o2, lab2, val2, sh2, f1, f2, hB2, k0, k1, k2, k3, k4, k5⟩ := hN2.cells
      have hjN : (j : Int) < (N : Int) := by omega
      have E3 : IntKind.i64.wrap ((j : Int) + 1) = ((j + 1 : Nat) : Int) := by rw [IntWalk.i64_in _ (by omega)]; omega
      have HNX := Lib.hid hnx
      unfold at0 at kf d0
      generalize bs.getD j 0 = kb at *
      generalize rat t.kids j = k at *
      generalize (fst? k : Int) - 1 = F at *
      have hl2' : k.val = none → ¬ ((bs2.length : Int) < 2) := fun hv => by
        rcases hkd with h | h
        · rw [hv] at h; cases h
        · omega
      clear hN2 hB2 f1 f2 k0 k1 k2 k5 hkb hnx hkm hl2 hkd
      cases hv : k.val with
      | some y =>
        rw [hv] at k3
        simp only [Option.isSome_some] at k3
        clear hv hl2'
        go_wp2_with fail
        refine kf.mono ?_
        rintro e w1 ⟨rfl, rfl⟩
        go_wp2_with fail
        refine kf.mono ?_
        rintro e w1 ⟨rfl, rfl⟩
        go_wp2_with fail
        exact ⟨⟨j + 1, by omega, by go_num, by rw [HNX.out], hB⟩, by simp [intOf]; omega⟩
      | none =>
        rw [hv] at k3
        simp only [Option.isSome_none] at k3
        have hl3 := hl2' hv
        clear hv hl2'
        go_wp2_with fail
        refine kf.mono ?_
        rintro e w1 ⟨rfl, rfl⟩
        go_wp2_with fail
        refine kf.mono ?_
        rintro e w1 ⟨rfl, rfl⟩
        go_wp2_with fail
        exact ⟨⟨j + 1, by omega, by go_num, by rw [HNX.out], hB⟩, by simp [intOf]; omega⟩
    · have hjN : ¬ ((j : Int) < (N : Int)) := by omega
      go_wp2_with fail
      go_ret
      exact ⟨rfl, hB⟩
end Go.Proofs.Ytchimfgbdfmegab
/- Canon of canonical trees. -/
namespace Go.Proofs.Ytchimfgbdfmegab
open Go.RowKit Go.Lib Go.Conc
set_option linter.unusedVariables false
set_option maxRecDepth 100000
set_option linter.unnecessarySimpa false
set_option linter.unusedSimpArgs false
set_option linter.unnecessarySimpa false
set_option maxRecDepth 100000
theorem exists_least {P : Nat → Prop} (h : ∃ n, P n) : ∃ n, P n ∧ ∀ m, P m → n ≤ m := by
  obtain ⟨n, hn⟩ := h
  induction n using Nat.strongRecOn with
  | _ n ih =>
    by_cases hm : ∃ m, m < n ∧ P m
    · obtain ⟨m, h1, h2⟩ := hm
      exact ih m h1 h2
    · exact ⟨n, hn, fun m h => Nat.le_of_not_lt fun hlt => hm ⟨m, hlt, h⟩⟩
open Classical in
noncomputable def hgt (P : Nat → Prop) : Nat := if h : ∃ n, P n then Classical.choose (exists_least h) else 0
theorem hgt_spec {P : Nat → Prop} (h : ∃ n, P n) : P (hgt P) ∧ ∀ m, P m → hgt P ≤ m := by
  unfold hgt
  rw [dif_pos h]
  exact Classical.choose_spec (exists_least h)
mutual
def nd : RX → Nat
  | .node _ _ ks => 1 + ndL ks
def ndL : List RX → Nat
  | [] => 0
  | k :: ks => nd k + ndL ks
end
theorem nd_eq (t : RX) : nd t = 1 + ndL t.kids := by cases t; rw [nd]; rfl
theorem ndL_cons (k : RX) (ks : List RX) : ndL (k :: ks) = nd k + ndL ks := by rw [ndL]
theorem ndL_append (xs ys : List RX) : ndL (xs ++ ys) = ndL xs + ndL ys := by
  induction xs with
  | nil => rw [ndL]; simp
  | cons k xs ih => rw [List.cons_append, ndL_cons, ndL_cons, ih, Nat.add_assoc]
theorem ndL_len : ∀ xs : List RX, xs.length ≤ ndL xs
  | [] => Nat.zero_le _
  | k :: xs => by
    have := ndL_len xs
    have := nd_eq k
    rw [ndL_cons, List.length_cons]; omega
theorem info101 : ∃ j, Try.prog.info? 51 = some j ∧ j.size ≠ 0 := by
  have h : (Try.prog.info? 51).map (fun i => decide (i.size ≠ 0)) = some true := by kernel_rfl
  obtain ⟨i, hi, hb⟩ := Option.map_eq_some_iff.1 h
  exact ⟨i, hi, by simpa using hb⟩
theorem zero127 (w : World) : (zeroValue 93).run Try.prog w = .ok (.agg #[]) w := by
  have h : (Try.prog.info? 93).map (·.zero) = some (some (.agg #[])) := by kernel_rfl
  obtain ⟨i, hi, hb⟩ := Option.map_eq_some_iff.1 h
  simp [zeroValue, typeInfo, hi, hb]
theorem run_makeMap126 (w : World) : (Instr.makeMap 92 none).run Try.prog w = .ok (.map (some w.heap.size)) (w.alloc (.map #[] 0)) := by
  simp [Instr.makeMap, Result.andThen]
theorem OwnK.shorter {base : Nat} {w : World} {g n c : Nat} {ks : List Nat} {k : Nat} (h : OwnK base w (.slice (some ⟨g, 0, none⟩) (n + 1) c) (ks ++ [k])) (hn : n = ks.length) : OwnK base w (.slice (some ⟨g, 0, none⟩) n c) ks := by
  subst hn
  refine ⟨by simp [kcs], .inr ?_⟩
  rcases h.2 with ⟨e, _⟩ | ⟨g', cap, cur, e, h1, h2, h3, h4, h5, h6⟩
  · cases e
  · simp only [Value.slice.injEq, Option.some.injEq, Addr.mk.injEq, and_true, true_and] at e
    obtain ⟨rfl, -, rfl⟩ := e
    refine ⟨g, c, cur, rfl, h1, h2, by rw [List.length_append] at h3; omega, h4, h5, ?_⟩
    have e2 : cur.toList.take (ks.length * 1) = (cur.toList.take ((ks ++ [k]).length * 1)).take (ks.length * 1) := by
      rw [List.take_take, Nat.min_eq_left (by rw [List.length_append]; omega)]
    rw [e2, h6]
    simp [kcs]
theorem OwnK.atK {base : Nat} {w : World} {v : Value} {ks : List Nat} (h : OwnK base w v ks) (j b : Nat) (hj : ks[j]? = some b) : ∃ g cap, v = .slice (some ⟨g, 0, none⟩) ks.length cap ∧ j < ks.length ∧ ks.length ≤ cap ∧ w.cell? ⟨g, j, none⟩ = some (at0 b) := by
  have hl := (List.getElem?_eq_some_iff.1 hj).1
  obtain ⟨g, cap, cur, e, h1, h2, h3, -⟩ := own_blk h (by omega)
  subst e
  refine ⟨g, cap, rfl, hl, h3, ?_⟩
  rw [World.ownsRow.cellAt h j (by omega)]
  unfold kcs
  rw [List.getElem?_map, hj]; rfl
/-- where Canon stands -/
structure CanR (w : World) (M : Nat) (st : List (Nat × RX)) (seen : List (Nat × Value)) (v4 : Value) (wr : World) : Prop where
  tr : ∀ e ∈ st, RadW (fun _ => True) w e.1 e.2 ∧ Can e.2 ∧ Shrt 1000 e.2
  row : OwnK w.heap.size wr v4 (st.map (·.1))
  mp : PMap wr M seen
  keys : ∀ p ∈ seen, (∃ cs, Blk w p.1 51 cs) ∧ p.2 = .agg #[]
  bel : Below w.heap.size w wr
  wl : ndL (st.map (·.2)) ≤ 100000
theorem look_agg {l : List (Nat × Value)} (h : ∀ p ∈ l, p.2 = .agg #[]) (b : Nat) : (lookM l b).getD (.agg #[]) = .agg #[] := by
  induction l with
  | nil => rfl
  | cons p l ih =>
    simp only [lookM]
    split
    · simp [h p (by simp)]
    · exact ih fun q hq => h q (by simp [hq])
theorem putM_keys2 {l : List (Nat × Value)} {b : Nat} {v : Value} {p : Nat × Value} (h : p ∈ putM l b v) : p = (b, v) ∨ p ∈ l := by
  induction l with
  | nil => simp [putM] at h; exact .inl h
  | cons q l ih =>
    simp only [putM] at h
    split at h
    · rcases List.mem_cons.1 h with h | h
      · exact .inl h
      · right; simp [h]
    · rcases List.mem_cons.1 h with h | h
      · right; simp [h]
      · rcases ih h with h | h
        · exact .inl h
        · right; simp [h]
theorem zip_fst {α β : Type} : ∀ (xs : List α) (ys : List β), xs.length = ys.length → (xs.zip ys).map (·.1) = xs
  | [], _, _ => by simp
  | x :: xs, [], h => by simp at h
  | x :: xs, y :: ys, h => by simp at h ⊢; exact zip_fst xs ys h
theorem zip_snd {α β : Type} : ∀ (xs : List α) (ys : List β), xs.length = ys.length → (xs.zip ys).map (·.2) = ys
  | [], [], _ => by simp
  | [], y :: ys, h => by simp at h
  | x :: xs, [], h => by simp at h
  | x :: xs, y :: ys, h => by simp at h ⊢; exact zip_snd xs ys h
set_option maxHeartbeats 2000000 in
theorem canon_true (b : Nat) (t : RX) (w : World) (h : RadW (fun _ => True) w b t) (hc : Can t) (hs : Shrt 1000 t) (hl : t.lab = []) (hn : nd t ≤ 100000) : Calls Try.prog 31 #[at0 b] w fun e w' => e = .returned (.bool true) ∧ Below w.heap.size w w' := by
  have hB1 := (Below.refl _ w).alloc (Nat.le_refl _) (.map #[] 0)
  have hm0 : PMap (w.alloc (.map #[] 0)) w.heap.size [] := PMap.new w
  have hB2 := (Below.refl _ (w.alloc (.map #[] 0))).alloc (Nat.le_refl _) (.cells #[.pointer (some ⟨b, 0, none⟩)] 26)
  have hm1 : PMap ((w.alloc (.map #[] 0)).alloc (.cells #[.pointer (some ⟨b, 0, none⟩)] 26)) w.heap.size [] := hm0.below hB2
  have hB0 := hB1.trans (hB2.mono hB1.size)
  have hrow : OwnK w.heap.size ((w.alloc (.map #[] 0)).alloc (.cells #[.pointer (some ⟨b, 0, none⟩)] 26)) (.slice (some ⟨w.heap.size + 1, 0, none⟩) 1 1) [b] :=
    ⟨rfl, .inr ⟨w.heap.size + 1, 1, #[.pointer (some ⟨b, 0, none⟩)], rfl, Nat.le_succ _, by
      have := Blk.new (w.alloc (.map #[] 0)) 26 #[.pointer (some ⟨b, 0, none⟩)]
      have e : (w.alloc (.map #[] 0)).heap.size = w.heap.size + 1 := by simp
      rw [e] at this; exact this, Nat.le_refl _, by unfold maxLen; omega, rfl, rfl⟩⟩
  have HS := Lib.hid (⟨h, hc, hs⟩ : RadW (fun _ => True) w b t ∧ Can t ∧ Shrt 1000 t)
  have HND := Lib.hid hn
  have hmk := run_makeMap126 w
  have hlab : w.cell? ⟨b, 1, none⟩ = some (.string ⟨#[]⟩) := by
    cases h with
    | mk h1 =>
      obtain ⟨o, lab, val, sh, e1, e2, hB, c0, c1, -⟩ := h1.cells
      rw [c1, show lab = ⟨#[]⟩ from bytes_ext (by rw [e1, hl])]
  have hee : ((⟨#[]⟩ : ByteArray).toList == ([] : List UInt8)) = true := by rw [ByteArray.toList_eq]; rfl
  clear h hB1 hm0 hB2 hc hs hl hn
  unfold at0
  go_enter Try.func31, Try.ntmps31
  go_upto_region 5 with (fail)
  generalize (w.alloc (.map #[] 0)).alloc (.cells #[.pointer (some ⟨b, 0, none⟩)] 26) = W at *
  obtain ⟨M, hM⟩ : ∃ M, M = w.heap.size := ⟨_, rfl⟩
  obtain ⟨N5, hN5⟩ : ∃ N5, N5 = w.heap.size + 1 := ⟨_, rfl⟩
  rw [← hN5] at hrow ⊢
  rw [← hM] at hm1 ⊢
  have hgM : w.heap.size ≤ M := by omega
  clear hM hN5 hmk hlab hee
  go_loopw [4] (fun v4 wr => ∃ st seen, CanR w M st seen v4 wr) (fun v4 wr => hgt fun m => ∃ st seen, CanR w M st seen v4 wr ∧ ndL (st.map (·.2)) = m)
  case atStart => exact ⟨[(b, t)], [], fun e he => by rw [List.mem_singleton] at he; subst he; exact HS.out, hrow, hm1, fun _ h => by simp at h, hB0, by simp [ndL]; exact HND.out⟩
  case round =>
    clear hrow hm1 hB0 HS HND
    obtain ⟨MM, hMM⟩ : ∃ MM, MM = hgt fun m => ∃ st seen, CanR w M st seen u4 wr ∧ ndL (st.map (·.2)) = m := ⟨_, rfl⟩
    have hsp := hgt_spec (P := fun m => ∃ st seen, CanR w M st seen u4 wr ∧ ndL (st.map (·.2)) = m) (by obtain ⟨st, seen, h⟩ := hrel; exact ⟨_, st, seen, h, rfl⟩)
    rw [← hMM] at hsp
    have HM := Lib.hid hMM
    clear hMM hrel
    obtain ⟨⟨st, seen, hL, hwg⟩, -⟩ := hsp
    obtain ⟨hTr, hrow, hmp, hkeys, hB, hwl⟩ := hL
    by_cases hst : st = []
    · subst hst
      obtain ⟨A, c, hu4⟩ : ∃ A c, u4 = .slice A 0 c := by
        rcases hrow.2 with ⟨e, h0⟩ | ⟨g', cap, cur, e, _⟩
        · exact ⟨none, 0, e⟩
        · exact ⟨_, _, e⟩
      clear hTr hrow hmp HM hwg
      subst hu4
      go_wp2_with fail
      go_ret
      exact ⟨rfl, hB⟩
    · obtain ⟨r, e, rfl⟩ : ∃ r e, st = r ++ [e] := ⟨st.dropLast, st.getLast hst, (List.dropLast_concat_getLast hst).symm⟩
      rw [List.map_append] at hrow hwg hwl
      obtain ⟨g, cap, e4, hlt4, hcap, hc4⟩ := OwnK.atK hrow r.length e.1 (by simp)
      have hlen4 : (List.map (fun x => x.1) r ++ List.map (fun x => x.1) [e]).length = r.length + 1 := by simp
      rw [hlen4] at e4 hcap
      subst e4
      obtain ⟨hRW, hCan, hShr⟩ := hTr e (by simp)
      have hrow2 : OwnK w.heap.size wr (.slice (some ⟨g, 0, none⟩) (r.length + 1) cap) (r.map (·.1) ++ [e.1]) := hrow
      have hshort := hrow2.shorter (by simp)
      have hnd1 := nd_eq e.2
      have hndl : ndL (List.map (fun x => x.2) r ++ List.map (fun x => x.2) [e]) = ndL (r.map (·.2)) + nd e.2 := by rw [ndL_append]; simp [ndL]
      rw [hndl] at hwg hwl
      have hr8 : r.length ≤ 100000 := by
        have := ndL_len (r.map (·.2))
        rw [List.length_map] at this
        omega
      obtain ⟨K, hK⟩ : ∃ K, K = r.length := ⟨_, rfl⟩
      obtain ⟨K1, hK1⟩ : ∃ K1, K1 = r.length + 1 := ⟨_, rfl⟩
      have hmax : r.length + 1 ≤ cap := hcap
      rw [← hK1] at hcap HM ⊢
      rw [← hK] at hc4 hshort
      have L1 : (0 : Int) < (K1 : Int) := by omega
      have L2 : IntKind.i64.wrap ((K1 : Int) - 1) = (K : Int) := by rw [IntWalk.i64_in _ (by omega)]; omega
      have L3 : (K : Int) < (K1 : Int) := by omega
      have L4 : K ≤ cap := by omega
      have HK := Lib.hid hK
      have Hwl := Lib.hid hwl
      have Hwg := Lib.hid hwg
      have HTR := Lib.hid (fun x (hx : x ∈ r) => hTr x (by simp [hx]))
      have HND := Lib.hid hnd1
      unfold at0 at hc4
      have hRWr := hRW.stay hB
      have HRW := Lib.hid hRW
      have HCN := Lib.hid hCan
      have HSH := Lib.hid hShr
      obtain ⟨kv, bs, hN, hKd⟩ : ∃ kv bs, Nod 0 w e.1 e.2 kv bs ∧ ∀ (i c : Nat) (k : RX), bs[i]? = some c → e.2.kids[i]? = some k → RadW (fun _ => True) w c k := by
        cases hRW with | mk a1 a2 a3 a4 => exact ⟨_, _, a1, a4⟩
      obtain ⟨cs, hblk⟩ : ∃ cs, Blk w e.1 51 cs := by obtain ⟨o, lab, val, sh, hb, -⟩ := hN.blk; exact ⟨_, hb⟩
      obtain ⟨jj, hj, hjs⟩ := info101
      have hkeyB : ∀ W', Below w.heap.size w W' → ∀ p ∈ seen, ∃ t c, Blk W' p.1 t c := fun W' hW' p hp => by
        obtain ⟨⟨cs, h⟩, -⟩ := hkeys p hp
        exact ⟨_, _, h.stay hW'⟩
      have hrun := PMap.look (P := Try.prog) hmp Try.underlying92 Try.underlying26 hj hjs (zero127 wr) (hblk.stay hB) (hkeyB wr hB) true
      rw [look_agg (fun p hp => (hkeys p hp).2)] at hrun
      simp only [if_true] at hrun
      unfold at0 at hrun
      have HNN := Lib.hid hN
      have HKD := Lib.hid hKd
      have hkb := fun W (hW : Below w.heap.size w W) => branches_true (fun _ => True) e.1 e.2 W (hRW.stay hW) hCan (fun k hk => hShr.lab hCan hk)
      have HKB := Lib.hid hkb
      have HKY := Lib.hid hkeys
      have HBY := Lib.hid hkeyB
      have HBK := Lib.hid hblk
      clear hrow hrow2 hlen4 hlt4 hK hK1 hwl hwg hst hr8 hTr hndl hnd1 hmax hRW hCan hShr hN hKd hblk hkeyB hkb hRWr hkeys
      cases hlk : (lookM seen e.1).isSome with
      | true =>
        rw [hlk] at hrun
        clear hlk
        have hBa := (Below.refl _ wr).alloc (Nat.le_refl _) (.cells #[] 93)
        have hB3 := hB.trans (hBa.mono hB.size)
        have hsh3 := hshort.stay hBa
        have hmp3 := hmp.below hBa
        go_wp2_with fail
        have hfin : CanR w M r seen (.slice (some ⟨g, 0, none⟩) K cap) (wr.alloc (.cells #[] 93)) := ⟨HTR.out, hsh3, hmp3, HKY.out, hB3, by have := Hwl.out; omega⟩
        refine ⟨⟨r, seen, hfin⟩, ?_⟩
        rw [← HM.out]
        exact Nat.lt_of_le_of_lt ((hgt_spec (P := fun m => ∃ st seen, CanR w M st seen (.slice (some ⟨g, 0, none⟩) K cap) (wr.alloc (.cells #[] 93)) ∧ ndL (st.map (·.2)) = m) ⟨_, r, seen, hfin, rfl⟩).2 _ ⟨r, seen, hfin, rfl⟩) (by rw [← Hwg.out, HND.out]; omega)
      | false =>
        rw [hlk] at hrun
        clear hlk
        have hBa := (Below.refl _ wr).alloc (Nat.le_refl _) (.cells #[] 93)
        have hB3 := hB.trans (hBa.mono hB.size)
        have hsh3 := hshort.stay hBa
        have hmp3 := hmp.below hBa
        obtain ⟨W4, hput, hset, hkeep, hsize⟩ := PMap.put (P := Try.prog) (v := .agg #[]) hmp3 Try.underlying92 Try.underlying26 hj hjs (HBK.out.stay hB3) (HBY.out _ hB3)
        have hB34 : Below w.heap.size (wr.alloc (.cells #[] 93)) W4 := hkeep.below hB3.size (fun x hx => by rw [List.mem_singleton] at hx; rw [hx]; exact hgM)
        have hB4 := hB3.trans hB34
        have hsh4 : OwnK w.heap.size W4 (.slice (some ⟨g, 0, none⟩) K cap) (r.map (·.1)) := own_keep hsh3 hkeep (fun x hx => by rw [List.mem_singleton] at hx; rw [hx]; exact own_ne hsh3 (fun cur => hmp3.notCells))
        unfold at0 at hput
        clear hkeep hsize hshort hmp hBa
        go_wp2_with fail
        have kb4 := HKB.out W4 hB4
        unfold at0 at kb4
        refine kb4.mono ?_
        rintro e' W5 ⟨rfl, hB5⟩
        have hB45 := hB4.trans (hB5.mono hB4.size)
        have hsh5 := hsh4.stay hB5
        have hset5 := hset.below hB5
        have hN5 := HNN.out.stay hB45
        obtain ⟨o, lab, val, sh, e1, e2, hBn, d0, d1, d2, d3, d4, d5⟩ := hN5.cells
        have hrdK := OwnK.rdK hN5.row
        have hsz5 := hB45.size
        have hbl : bs.length ≤ 800 := by
          have h1 := HNN.out.len
          have h2 := kids_few HCN.out
          omega
        have hrl : (r.map (·.1)).length ≤ 100000 := by rw [List.length_map]; have := ndL_len (r.map (·.2)); rw [List.length_map] at this; have := Hwl.out; omega
        clear kb4 hN5 hBn e1 e2 d0 d1 d2 d3 d5 hrun hput hsh4 hset hB34
        go_wp2_with (at_builtin; refine wpList_appK _ rfl _ _ rfl w.heap.size (.slice (some ⟨g, 0, none⟩) K cap) kv (r.map (·.1)) bs rfl rfl hsh5 hrdK (by omega) hsz5 ?_; intro v6 w6 ho6 hg6)
        have hB6 : Below w.heap.size w w6 := hB45.grown hg6 hsz5 (own_ge hsh5)
        have hset6 : PMap w6 M (putM seen e.1 (.agg #[])) := hset5.keep (X := (Value.slice (some ⟨g, 0, none⟩) K cap).ownBlock.toList) ⟨⟨hg6.os, hg6.tape, hg6.output, hg6.size, fun i hi => by omega⟩, fun i hi hx => hg6.block i hi (fun e => hx (by rw [← e]; simp))⟩ (fun hm => own_ne hsh5 (fun cur => hset5.notCells) (by simpa using hm))
        have hlz : bs.length = e.2.kids.length := HNN.out.len
        have hfin : CanR w M (r ++ bs.zip e.2.kids) (putM seen e.1 (.agg #[])) v6 w6 := by
          refine ⟨fun x hx => ?_, by rw [List.map_append, zip_fst _ _ hlz]; exact ho6, hset6, fun p hp => ?_, hB6, ?_⟩
          · rcases List.mem_append.1 hx with h | h
            · exact HTR.out x h
            · obtain ⟨i, hi, he⟩ := List.mem_iff_getElem.1 h
              rw [List.length_zip] at hi
              rw [List.getElem_zip] at he
              have hkm : e.2.kids[i]'(by omega) ∈ e.2.kids := List.getElem_mem _
              rw [← he]
              exact ⟨HKD.out i _ _ (List.getElem?_eq_getElem (by omega)) (List.getElem?_eq_getElem (by omega)), HCN.out.kids _ hkm, HSH.out.kid hkm⟩
          · rcases putM_keys2 hp with h | h
            · rw [h]; exact ⟨⟨_, HBK.out⟩, rfl⟩
            · exact HKY.out p h
          · rw [List.map_append, zip_snd _ _ hlz, ndL_append]
            have h1 := Hwl.out
            have h2 := HND.out
            omega
        refine ⟨⟨_, _, hfin⟩, ?_⟩
        rw [← HM.out]
        refine Nat.lt_of_le_of_lt ((hgt_spec (P := fun m => ∃ st seen, CanR w M st seen v6 w6 ∧ ndL (st.map (·.2)) = m) ⟨_, _, _, hfin, rfl⟩).2 _ ⟨_, _, hfin, rfl⟩) ?_
        rw [← Hwg.out, HND.out, List.map_append, zip_snd _ _ hlz, ndL_append]; omega
end Go.Proofs.Ytchimfgbdfmegab
/- The reference's trees in memory. -/
namespace Go.Proofs.Ytchimfgbdfmegab
open Go.RowKit Go.Lib
set_option linter.unusedVariables false
set_option maxRecDepth 100000
set_option linter.unnecessarySimpa false
set_option linter.unusedSimpArgs false
set_option linter.unnecessarySimpa false
set_option maxRecDepth 100000
/-- a row of the reference's children -/
def OwnT (base : Nat) (w : World) (v : Value) (ks : List Nat) : Prop := w.ownsRow base 63 1 v ks.length (kcs ks)
theorem OwnT.base {b b' : Nat} {w : World} {v : Value} {xs : List Nat} (h : OwnT b w v xs) (hb : b' ≤ b) : OwnT b' w v xs := by
  refine ⟨h.1, ?_⟩
  rcases h.2 with h1 | ⟨g, cap, cur, h1, hg, h2⟩
  · exact .inl h1
  · exact .inr ⟨g, cap, cur, h1, Nat.le_trans hb hg, h2⟩
theorem OwnT.stay {base : Nat} {w w' : World} {v : Value} {xs : List Nat} (h : OwnT base w v xs) (hb : Below w.heap.size w w') : OwnT base w' v xs := own_keep h (Keep.of_below (X := []) hb) (by simp)
theorem OwnT.form {base : Nat} {w : World} {v : Value} {xs : List Nat} (h : OwnT base w v xs) : ∃ A c, v = .slice A xs.length c := by
  rcases h.2 with ⟨e, h0⟩ | ⟨g, cap, cur, e, _⟩
  · exact ⟨none, 0, by rw [e, h0]⟩
  · exact ⟨_, _, e⟩
theorem OwnT.at_ {w : World} {base : Nat} {kv : Value} {bs : List Nat} (h : OwnT base w kv bs) (j : Nat) (hj : j < bs.length) : ∃ g c, kv = .slice (some ⟨g, 0, none⟩) bs.length c ∧ w.cell? ⟨g, j, none⟩ = some (at0 (bs.getD j 0)) := by
  obtain ⟨g, cap, cur, e, -⟩ := own_blk h (by omega)
  subst e
  refine ⟨g, cap, rfl, ?_⟩
  have := World.ownsRow.cellAt h j (by omega)
  rw [this]
  unfold kcs
  rw [List.getElem?_map, List.getElem?_eq_getElem hj, List.getD_eq_getElem?_getD, List.getElem?_eq_getElem hj]; rfl
/-- a reference's node in memory -/
structure RNod (w : World) (b : Nat) (t : RX) (kv : Value) (bs : List Nat) : Prop where
  blk : ∃ (lab val : ByteArray), Blk w b 84 #[.string lab, .bool t.val.isSome, .string val, kv] ∧ lab.data.toList = t.lab ∧ val = t.val.getD ByteArray.empty
  row : OwnT 0 w kv bs
  len : bs.length = t.kids.length
inductive RefW (P : Nat → Prop) (w : World) : Nat → RX → Prop
  | mk {b : Nat} {t : RX} {kv : Value} {bs : List Nat} : RNod w b t kv bs → P b → (∀ g, kv.ownBlock = some g → P g) → (∀ (i c : Nat) (k : RX), bs[i]? = some c → t.kids[i]? = some k → RefW P w c k) → RefW P w b t
theorem OwnT.lt {base : Nat} {w : World} {v : Value} {ks : List Nat} (h : OwnT base w v ks) {g : Nat} (hg : v.ownBlock = some g) : g < w.heap.size := by
  obtain ⟨cur, hc⟩ := own_cells h g hg
  exact (Array.getElem?_eq_some_iff.1 hc).1
theorem RNod.lt {w : World} {b : Nat} {t : RX} {kv : Value} {bs : List Nat} (h : RNod w b t kv bs) : b < w.heap.size := by obtain ⟨lab, val, hB, -⟩ := h.blk; exact hB.lt
theorem RNod.keep {X : List Nat} {w w' : World} {b : Nat} {t : RX} {kv : Value} {bs : List Nat} (h : RNod w b t kv bs) (hk : Keep X w w') (hb : b ∉ X) (hr : ∀ g, kv.ownBlock = some g → g ∉ X) : RNod w' b t kv bs := by
  obtain ⟨lab, val, hB, h2⟩ := h.blk
  exact ⟨⟨lab, val, hB.keep hk hb, h2⟩, own_keep h.row hk (fun x hx e => hr x e hx), h.len⟩
theorem RNod.stay {w w' : World} {b : Nat} {t : RX} {kv : Value} {bs : List Nat} (h : RNod w b t kv bs) (hb : Below w.heap.size w w') : RNod w' b t kv bs := h.keep (Keep.of_below (X := []) hb) (by simp) (by simp)
theorem RefW.keep {P : Nat → Prop} {X : List Nat} {w w' : World} {b : Nat} {t : RX} (h : RefW P w b t) (hk : Keep X w w') (hP : ∀ x, P x → x ∉ X) : RefW P w' b t := by
  induction h with
  | mk h1 h2 h3 h4 ih => exact .mk (h1.keep hk (hP _ h2) fun g hg => hP _ (h3 g hg)) h2 h3 ih
theorem RefW.stay {P : Nat → Prop} {w w' : World} {b : Nat} {t : RX} (h : RefW P w b t) (hb : Below w.heap.size w w') : RefW P w' b t := h.keep (Keep.of_below (X := []) hb) (by simp)
theorem RefW.mono {P R : Nat → Prop} {w : World} {b : Nat} {t : RX} (h : RefW P w b t) (hR : ∀ x, P x → x < w.heap.size → R x) : RefW R w b t := by
  induction h with
  | mk h1 h2 h3 h4 ih => exact .mk h1 (hR _ h2 h1.lt) (fun g hg => hR _ (h3 g hg) (h1.row.lt hg)) ih
theorem RNod.cells {w : World} {b : Nat} {t : RX} {kv : Value} {bs : List Nat} (h : RNod w b t kv bs) : ∃ (lab val : ByteArray), lab.data.toList = t.lab ∧ val = t.val.getD ByteArray.empty ∧ Blk w b 84 #[.string lab, .bool t.val.isSome, .string val, kv] ∧
    (w.cell? ⟨b, 0, none⟩ = some (.string lab) ∧ w.cell? ⟨b, 1, none⟩ = some (.bool t.val.isSome) ∧ w.cell? ⟨b, 2, none⟩ = some (.string val) ∧ w.cell? ⟨b, 3, none⟩ = some kv) := by
  obtain ⟨lab, val, hB, h1, h2⟩ := h.blk
  exact ⟨lab, val, h1, h2, hB, hB.cell 0, hB.cell 1, hB.cell 2, hB.cell 3⟩
/-- members of kids, as pairs -/
def prL (ks : List RX) : List Pr := (bodyL ks).map toPr
/-- .. of one, behind its label -/
def prB (k : RX) : List Pr := ((body k).map fun x => (k.lab ++ x.1, x.2)).map toPr
theorem prL_cons (k : RX) (ks : List RX) : prL (k :: ks) = prB k ++ prL ks := by unfold prL prB; rw [bodyL, List.map_append]
theorem prL_append (xs bs : List RX) : prL (xs ++ bs) = prL xs ++ prL bs := by
  induction xs with
  | nil => simp [prL, bodyL]
  | cons a r ih => rw [List.cons_append, prL_cons, prL_cons, ih, List.append_assoc]
theorem prL_nil : prL [] = [] := rfl
theorem prs_kids (t : RX) : prs t = (vals t.val).map toPr ++ prL t.kids := by
  cases t with
  | node l v ks => unfold prs prL; rw [body_node, List.map_append]; rfl
theorem prB_key {k : RX} {p : Pr} (h : p ∈ prB k) : ∃ y, key p = k.lab ++ y := by
  unfold prB at h
  rw [List.mem_map] at h
  obtain ⟨x, hx, rfl⟩ := h
  rw [List.mem_map] at hx
  obtain ⟨z, -, rfl⟩ := hx
  exact ⟨z.1, by simp [key, toPr]⟩
theorem prB_some {k : RX} (hc : Can k) (hk : Kd k) : 0 < (prB k).length := by
  obtain ⟨x, hx⟩ := body_some k hc (by rcases hk.2 with h | h; exact .inl h; exact .inr (by omega))
  unfold prB
  rw [List.length_map, List.length_map]
  exact List.length_pos_of_mem hx
/-- what the reference's branch does -/
def BranchOK (k : RX) : Prop := ∀ (g off c : Nat) (w : World), Rd w (some ⟨g, off, none⟩) (prB k) → (prB k).length ≤ c → (prB k).length ≤ 1000 → (∀ p ∈ prB k, p.1.size ≤ 1000) →
  Calls Try.prog 59 #[.slice (some ⟨g, off, none⟩) (prB k).length c] w fun e w' => ∃ b, e = .returned (at0 b) ∧ RefW (fun x => w.heap.size ≤ x) w' b k ∧ Below w.heap.size w w'
end Go.Proofs.Ytchimfgbdfmegab
/- The reference's Find; what stands around a key in a rising list. -/
namespace Go.Proofs.Ytchimfgbdfmegab
open Go.RowKit Go.Lib
set_option linter.unusedVariables false
set_option maxRecDepth 100000
set_option maxRecDepth 100000
set_option linter.unusedSimpArgs false
set_option linter.unnecessarySimpa false
set_option maxRecDepth 100000 in
set_option maxHeartbeats 8000000 in
theorem refFind_any (A : Option Addr) (c : Nat) (xs : List Pr) (k : ByteArray) (w : World) (hR : Rd w A xs) (hn : xs.length ≤ 1000) (hz : Sized xs) (hk : k.size ≤ maxLen) :
    Calls Try.prog 25 #[.slice A xs.length c, .string k] w fun e w' => e = .returned (.tuple #[.int .i64 (posK xs k), .bool (isK xs k)]) ∧ ∃ n, w' = w.drewN n := by
  obtain ⟨N, hN⟩ : ∃ N, N = xs.length := ⟨_, rfl⟩
  obtain ⟨P, hP⟩ : ∃ P, P = posK xs k := ⟨_, rfl⟩
  have hPN : P ≤ N := by rw [hP, hN]; exact posK_le _ _
  rw [← hN] at hn ⊢
  rw [← hP]
  have HN := Lib.hid hN
  have HP := Lib.hid hP
  have HR := Lib.hid hR
  have HZ := Lib.hid hz
  have HK := Lib.hid hk
  clear hN hP hR hz hk
  go_enter Try.func25, Try.ntmps25
  go_wp2_with fail
  go_loopw [6] (fun vi wr => ∃ (i : Nat), vi = .int .i64 i ∧ i ≤ P ∧ ∃ q, wr = w.drewN q) (fun vi wr => N - (intOf vi).toNat)
  case atStart => exact ⟨0, rfl, Nat.zero_le _, 0, rfl⟩
  case round =>
    obtain ⟨i, rfl, hi, q, rfl⟩ := hrel
    have hRd := HR.out.drewN q
    have hdd : ∀ z, (w.drewN q).drewN z = w.drewN (q + z) := fun z => by simp [World.drewN, Nat.add_assoc]
    have HDD := Lib.hid hdd
    clear hdd
    generalize hW : w.drewN q = W at *
    have HW := Lib.hid hW
    clear hW
    by_cases hlt : i < N
    · obtain ⟨g, off, rfl, c0, c1⟩ := hRd.at i (by have := HN.out; omega)
      have B2 : (i : Int) < (N : Int) := by omega
      have E3 : IntKind.i64.wrap ((i : Int) + 1) = ((i + 1 : Nat) : Int) := by rw [IntWalk.i64_in _ (by omega)]; omega
      clear hRd
      have hl := fun W => less_any (pat xs i).1 k W (HZ.out i) HK.out
      cases hv : ltB (pat xs i).1 k with
      | true =>
        have S : i + 1 ≤ P := by
          rcases Nat.lt_or_ge i P with q | q
          · exact q
          · obtain rfl : i = P := by omega
            have h1 := (ltB_iff _ _).1 hv
            rw [HP.out] at h1
            exact absurd h1 (posK_not xs k (by rw [← HP.out, ← HN.out]; exact hlt))
        rw [hv] at hl
        go_wp2_with fail
        refine (hl _).mono ?_
        rintro e w1 ⟨rfl, n1, rfl⟩
        go_wp2_with fail
        exact ⟨⟨i + 1, by go_num, S, _, HDD.out n1⟩, by simp [intOf]; omega⟩
      | false =>
        obtain rfl : i = P := by
          rcases Nat.lt_or_ge i P with q | q
          · have h1 := (ltB_iff _ _).2 (posK_lt xs k i (by rw [← HP.out]; exact q))
            rw [hv] at h1; cases h1
          · omega
        rw [hv] at hl
        have HI := Lib.hid (isK_bytes xs k (by rw [← HP.out, ← HN.out]; exact hlt))
        go_wp2_with fail
        refine (hl _).mono ?_
        rintro e w1 ⟨rfl, n1, rfl⟩
        have c0' : (W.drewN n1).cell? ⟨g, off + i * 2, none⟩ = some (.string (pat xs i).1) := c0
        have hdw : W.drewN n1 = w.drewN (q + n1) := HDD.out n1
        have HDW := Lib.hid hdw
        clear c0 c1 hdw HDD
        generalize W.drewN n1 = W1 at *
        go_wp2_with fail
        go_quiet (fail)
        go_wp2_with fail
        go_ret2
        have e1 := HI.out
        rw [← HP.out] at e1
        rw [e1]
        refine ⟨rfl, q + n1 + nq, ?_⟩
        rw [HDW.out]; simp [World.drewN, Nat.add_assoc]
    · obtain rfl : i = P := by omega
      have HI := Lib.hid (isK_end xs k (by rw [← HP.out, ← HN.out]; exact hlt))
      have B2 : decide ((i : Int) < (N : Int)) = false := by rw [decide_eq_false_iff_not]; omega
      go_wp2_with fail
      go_quiet (fail)
      go_wp2_with fail
      go_ret2
      rw [HI.out]
      exact ⟨rfl, _, HDD.out nq⟩
/-- those less than a key -/
def lessK (xs : List Pr) (k : ByteArray) : List Pr := xs.take (posK xs k)
/-- those greater -/
def moreK (xs : List Pr) (k : ByteArray) : List Pr := xs.drop (posK xs k + if isK xs k = true then 1 else 0)
theorem Rd.take {w : World} {A : Option Addr} {xs : List Pr} (h : Rd w A xs) (n : Nat) : Rd w A (xs.take n) := fun j p hj => by
  rw [List.getElem?_take] at hj
  split at hj
  · exact h j p hj
  · cases hj
theorem Rd.drop {w : World} {g off : Nat} {xs : List Pr} (h : Rd w (some ⟨g, off, none⟩) xs) (n : Nat) : Rd w (some ⟨g, off + n * 2, none⟩) (xs.drop n) := fun j p hj => by
  rw [List.getElem?_drop] at hj
  obtain ⟨g', off', e, h1, h2⟩ := h (n + j) p hj
  simp at e
  obtain ⟨rfl, rfl⟩ := e
  refine ⟨_, _, rfl, ?_, ?_⟩
  · rw [show off + n * 2 + j * 2 = off + (n + j) * 2 by omega]; exact h1
  · rw [show off + n * 2 + j * 2 + 1 = off + (n + j) * 2 + 1 by omega]; exact h2
/-- what is told of those around a key -/
def AroundPost (xs : List Pr) (k : ByteArray) (w : World) (e : Ending) (w' : World) : Prop :=
  ∃ A1 c1 A2 c2, e = .returned (.tuple #[.slice A1 (lessK xs k).length c1, .slice A2 (moreK xs k).length c2]) ∧ Rd w' A1 (lessK xs k) ∧ Rd w' A2 (moreK xs k) ∧ (A1 = none → c1 = 0) ∧ (A2 = none → c2 = 0) ∧ Below w.heap.size w w'
theorem around_end {A : Option Addr} {c P Q : Nat} {xs : List Pr} {k : ByteArray} {w w' : World} (hR : Rd w' A xs) (hB : Below w.heap.size w w') (hP : P = posK xs k) (hQ : Q = posK xs k + if isK xs k = true then 1 else 0) (hPN : P ≤ xs.length) (hc : xs.length ≤ c) (h00 : A = none → c = 0) (n : Nat) (A2 : Option Addr) (hA2 : A2 = if c = Q then A else A.map (·.add (Q * 2))) :
    AroundPost xs k w (.returned (.tuple #[.slice A P c, .slice A2 (xs.length - Q) (c - Q)])) (w'.drewN n) := by
  have e1 : (lessK xs k).length = P := by unfold lessK; rw [List.length_take, ← hP]; omega
  have e2 : (moreK xs k).length = xs.length - Q := by unfold moreK; rw [List.length_drop, ← hQ]
  refine ⟨A, c, A2, c - Q, by rw [e1, e2], (hR.take _).drewN n, ?_, h00, (fun hn => by
    subst hA2
    split at hn
    · rw [h00 hn]; simp
    · rw [h00 (by simpa using hn)]; simp), ⟨hB.os, hB.tape, hB.output, hB.size, hB.block⟩⟩
  refine Rd.drewN (w := w') ?_ n
  unfold moreK
  rw [← hQ]
  by_cases h0 : xs.length ≤ Q
  · rw [List.drop_eq_nil_of_le h0]
    intro j p hj
    simp at hj
  · obtain ⟨g, off, rfl⟩ := hR.starts (by omega)
    rw [if_neg (by omega)] at hA2
    rw [hA2, Option.map_some, addr_add]
    exact hR.drop Q
end Go.Proofs.Ytchimfgbdfmegab
