/- The law's 'made': what it builds. -/
import Derived.Test.YtgldgdpgbfejmaaYja
import Derived.Test.YtgldgdpgbfejmaaYe
namespace Go.Proofs.Ytgldgdpgbfejmaa
open Go.RowKit Go.Lib Go.Conc
set_option linter.unusedVariables false
set_option linter.unusedSimpArgs false
theorem wpList_runAt {P : Program} {ops : Array Oper} {rest : List Oper} {o : Oper} {a : Act} {w : World} {Q : Exit → Act → World → Prop} (hg : o.guard = none) (dst : Option Tmp) (hdst : o.dst = dst)
    (v : Value) (w' : World) (hrun : (execOp a.eval o).run P w = .ok (.value v) w')
    (h : wpList P ops Q rest (a.put dst v) w') : wpList P ops Q (o :: rest) a w := by
  subst hdst
  refine wpList_plain hg fun K hK => ?_
  unfold Oper.wp
  rw [hrun]
  exact hK _ _ h
set_option maxRecDepth 100000 in
theorem build85n (ev : Operand → Value) (o : Oper) (w : World) (ho : o.op = .build 85 #[]) :
    (execOp ev o).run Try.prog w = .ok (.value (.agg (rcells (rn0 false) (.slice none 0 0)).toArray)) w := by
  unfold execOp
  simp only [ho, List.map_toArray, List.map_cons, List.map_nil]
  clear ho
  kernel_rfl
def rc2 : Array Value := (rcells (rn0 false) (.slice none 0 0) ++ rcells (rn0 true) (.slice none 0 0)).toArray
set_option maxRecDepth 100000 in
theorem bs86 (ev : Operand → Value) (o : Oper) (s t : Operand) (w : World) (ho : o.op = .buildSlice 86 2 #[(0, s), (1, t)]) (hs : ev s = .agg (rcells (rn0 false) (.slice none 0 0)).toArray) (ht : ev t = .agg (rcells (rn0 true) (.slice none 0 0)).toArray) :
    (execOp ev o).run Try.prog w = .ok (.value (.slice (some ⟨w.heap.size, 0, none⟩) 2 2)) (w.alloc (.cells rc2 85)) := by
  unfold execOp
  simp only [ho, List.map_toArray, List.map_cons, List.map_nil, hs, ht]
  clear ho hs ht
  kernel_rfl
end Go.Proofs.Ytgldgdpgbfejmaa
/- The law's 'made': its loop's invariant, and what it comes to. -/
namespace Go.Proofs.Ytgldgdpgbfejmaa
open Go.RowKit Go.Lib Go.Conc
set_option linter.unusedVariables false
set_option linter.unusedSimpArgs false
def nilS : Value := .slice none 0 0
def ns0 : List (RN × Value) := [(rn0 false, .slice none 0 0), (rn0 true, .slice none 0 0)]
def lv0 (i : Nat) : List Bool := false :: List.replicate i true
/-- while the four tokens are taken -/
structure Mi (base : Nat) (w : World) (wb p c xb b0 b1 : Nat) (lw tw Nv Lv : Value) (i : Nat) (ts : List (Option Nat)) : Prop where
  blk : Blk w wb 36 #[lw, tw, at0 p, at0 xb]
  ge : base ≤ wb ∧ base ≤ p ∧ base ≤ c
  l : OwnK base w lw [b0, b1]
  t : w.ownsRow base 64 1 tw (i + 1) (ts.map pt)
  len : ts.length = i + 1
  zero : ts[0]? = some none
  tok : ∀ j, 0 < j → j < i + 1 → ∃ t, ts[j]? = some (some t) ∧ Tok w t p j true ∧ base ≤ t
  pool : Pool w p c 4 (i : Int) ((upto 4).drop i)
  ref : RefA base w xb Nv Lv ns0 (lv0 i)
  inn : Inn base w b0 none (fun _ => .no) (.slice none 0 0) (.slice none 0 0)
  bck : Bck base w b1 none [] (.slice none 0 0) (.slice none 0 0)
  ne : b0 ≠ b1
theorem mapK_no (bl : List Nat) : mapK bl (fun _ => .no) = fun _ => .no := rfl
theorem foot_nil (b : Nat) : (NB.mk b (.slice none 0 0) (.slice none 0 0)).foot = [b] := rfl
theorem sized_nil : Sized [] := fun j => by simp [pat]
section
variable {base : Nat} {w w' : World} {wb p c xb b0 b1 : Nat} {lw tw Nv Lv : Value} {ts : List (Option Nat)}
def bs0 (b0 b1 : Nat) : List NB := [⟨b0, .slice none 0 0, .slice none 0 0⟩, ⟨b1, .slice none 0 0, .slice none 0 0⟩]
theorem Mi.done (h : Mi base w wb p c xb b0 b1 lw tw Nv Lv 4 ts) : Cr base w p c xb Nv Lv ts (lv0 4) (bs0 b0 b1) ns0 ∧ Li base w wb p xb lw tw ts ((bs0 b0 b1).map (·.b)) (bs0 b0 b1) ∧ Few 0 ns0 := by
  have hz : owO ts 0 = none := by unfold owO; rw [h.zero]; rfl
  have hmem : ∀ t, some t ∈ ts → base ≤ t := fun t ht => by
    obtain ⟨j, hj⟩ := List.getElem?_of_mem ht
    have hl := (List.getElem?_eq_some_iff.1 hj).1
    rw [h.len] at hl
    by_cases h0 : j = 0
    · subst h0
      rw [h.zero] at hj; cases hj
    · obtain ⟨t', e1, -, hb⟩ := h.tok j (by omega) hl
      rw [e1] at hj; cases hj; exact hb
  have rows : ∀ b, lw.ownBlock = some b → ∀ (cs : Array Value), ¬ Blk w b 98 cs := fun b e cs hb => by
    obtain ⟨c1, h1⟩ := own_cells h.l b e
    unfold Blk at hb; rw [hb] at h1; cases h1
  have blk0 : ∃ cs, Blk w b0 98 cs := by
    obtain ⟨d, nn, hv, -, -⟩ := h.inn
    exact ⟨_, hv.blk⟩
  have blk1 : ∃ cs, Blk w b1 98 cs := ⟨_, h.bck.1.blk⟩
  refine ⟨⟨⟨h.ge.2.1, h.ge.2.2⟩, hmem, ⟨h.len, rfl, ⟨h.zero, rfl⟩, fun j h0 h5 => ?_, ?_⟩, h.ref, rfl, fun j n r e1 e2 => ?_, fun r hr i k e => ?_, fun r hr => ?_, fun i j ni nj hij e1 e2 x hx hx' => ?_, fun r hr => ?_⟩, ⟨h.blk, h.ge.1, h.l, h.t, fun n hn x hx hf => ?_⟩, ⟨by decide, fun r hr => ?_⟩⟩
  · obtain ⟨t, e1, hT, -⟩ := h.tok j h0 h5
    refine ⟨t, true, e1, ?_, hT⟩
    rcases (show j = 1 ∨ j = 2 ∨ j = 3 ∨ j = 4 by omega) with rfl | rfl | rfl | rfl <;> rfl
  · exact ⟨_, _, h.pool, rfl, rfl⟩
  · match j, e1, e2 with
    | 0, e1, e2 =>
      cases e1; cases e2
      unfold NodeIs
      rw [if_neg (by decide)]
      refine ⟨rfl, ?_⟩
      show Inn base w b0 (owO ts 0) _ _ _
      rw [hz]
      exact h.inn
    | 1, e1, e2 =>
      cases e1; cases e2
      unfold NodeIs
      rw [if_pos (show (rn0 true).bk = true from rfl)]
      refine ⟨fun _ => rfl, ?_⟩
      show Bck base w b1 (owO ts 0) _ _ _
      rw [hz]
      exact h.bck
  · simp only [ns0, List.mem_cons, List.not_mem_nil, or_false] at hr
    rcases hr with rfl | rfl <;> cases e
  · simp only [ns0, List.mem_cons, List.not_mem_nil, or_false] at hr
    rcases hr with rfl | rfl <;> (show (0 : Nat) < 5; decide)
  · have hlt : ∀ (k : Nat) (m : NB), (bs0 b0 b1)[k]? = some m → (k = 0 ∧ m.foot = [b0]) ∨ (k = 1 ∧ m.foot = [b1]) := fun k m e => by
      match k, e with
      | 0, e => cases e; exact .inl ⟨rfl, rfl⟩
      | 1, e => cases e; exact .inr ⟨rfl, rfl⟩
    rcases hlt i ni e1 with ⟨rfl, f1⟩ | ⟨rfl, f1⟩ <;> rcases hlt j nj e2 with ⟨rfl, f2⟩ | ⟨rfl, f2⟩
    · exact hij rfl
    · rw [f1] at hx; rw [f2] at hx'
      exact h.ne ((List.mem_singleton.1 hx).symm.trans (List.mem_singleton.1 hx'))
    · rw [f1] at hx; rw [f2] at hx'
      exact h.ne ((List.mem_singleton.1 hx').symm.trans (List.mem_singleton.1 hx))
    · exact hij rfl
  · simp only [ns0, List.mem_cons, List.not_mem_nil, or_false] at hr
    rcases hr with rfl | rfl <;> exact sized_nil
  · simp only [bs0, List.mem_cons, List.not_mem_nil, or_false] at hn
    rcases hn with rfl | rfl
    · rw [foot_nil, List.mem_singleton] at hf
      subst hf
      obtain ⟨cs, hb⟩ := blk0
      exact rows _ hx cs hb
    · rw [foot_nil, List.mem_singleton] at hf
      subst hf
      obtain ⟨cs, hb⟩ := blk1
      exact rows _ hx cs hb
  · simp only [ns0, List.mem_cons, List.not_mem_nil, or_false] at hr
    rcases hr with rfl | rfl <;> exact Nat.zero_le _
end
end Go.Proofs.Ytgldgdpgbfejmaa
/- The law's 'made': its head. -/
namespace Go.Proofs.Ytgldgdpgbfejmaa
open Go.RowKit Go.Lib Go.Conc
set_option linter.unusedVariables false
set_option linter.unusedSimpArgs false
theorem madeSix (w2 : World) (c1 c2 c3 c4 c5 c6 : Array Value) (t1 t2 t3 t4 t5 t6 : TypeId) (M : Nat) (hM : M = w2.heap.size) (W : World) (hW : W = (((((w2.alloc (.cells c1 t1)).alloc (.cells c2 t2)).alloc (.cells c3 t3)).alloc (.cells c4 t4)).alloc (.cells c5 t5)).alloc (.cells c6 t6)) :
    Blk W M t1 c1 ∧ Blk W (M + 1) t2 c2 ∧ Blk W (M + 2) t3 c3 ∧ Blk W (M + 3) t4 c4 ∧ Blk W (M + 4) t5 c5 ∧ Blk W (M + 5) t6 c6 ∧ Below w2.heap.size w2 W ∧ W.heap.size = M + 6 := by
  subst hM hW
  have b1 := (Below.refl _ w2).alloc (Nat.le_refl _) (.cells c1 t1)
  have b2 := b1.alloc b1.size (.cells c2 t2)
  have b3 := b2.alloc b2.size (.cells c3 t3)
  have b4 := b3.alloc b3.size (.cells c4 t4)
  have b5 := b4.alloc b4.size (.cells c5 t5)
  have b6 := b5.alloc b5.size (.cells c6 t6)
  have h1 := Blk.new w2 t1 c1
  have h2 := Blk.new (w2.alloc (.cells c1 t1)) t2 c2
  rw [show (w2.alloc (.cells c1 t1)).heap.size = w2.heap.size + 1 by simp] at h2
  have h3 := Blk.new ((w2.alloc (.cells c1 t1)).alloc (.cells c2 t2)) t3 c3
  rw [show ((w2.alloc (.cells c1 t1)).alloc (.cells c2 t2)).heap.size = w2.heap.size + 2 by simp] at h3
  have h4 := Blk.new (((w2.alloc (.cells c1 t1)).alloc (.cells c2 t2)).alloc (.cells c3 t3)) t4 c4
  rw [show (((w2.alloc (.cells c1 t1)).alloc (.cells c2 t2)).alloc (.cells c3 t3)).heap.size = w2.heap.size + 3 by simp] at h4
  have h5 := Blk.new ((((w2.alloc (.cells c1 t1)).alloc (.cells c2 t2)).alloc (.cells c3 t3)).alloc (.cells c4 t4)) t5 c5
  rw [show ((((w2.alloc (.cells c1 t1)).alloc (.cells c2 t2)).alloc (.cells c3 t3)).alloc (.cells c4 t4)).heap.size = w2.heap.size + 4 by simp] at h5
  have h6 := Blk.new (((((w2.alloc (.cells c1 t1)).alloc (.cells c2 t2)).alloc (.cells c3 t3)).alloc (.cells c4 t4)).alloc (.cells c5 t5)) t6 c6
  rw [show (((((w2.alloc (.cells c1 t1)).alloc (.cells c2 t2)).alloc (.cells c3 t3)).alloc (.cells c4 t4)).alloc (.cells c5 t5)).heap.size = w2.heap.size + 5 by simp] at h6
  exact ⟨(((((h1.alloc _).alloc _).alloc _).alloc _).alloc _), ((((h2.alloc _).alloc _).alloc _).alloc _), (((h3.alloc _).alloc _).alloc _), ((h4.alloc _).alloc _), (h5.alloc _), h6, b6, by simp⟩
theorem row_of {w : World} {base g n e : Nat} {cs : Array Value} {size : Nat} (h : Blk w g e cs) (hb : base ≤ g) (hs : cs.size = n * size) (hn : n ≤ maxLen) : w.ownsRow base e size (.slice (some ⟨g, 0, none⟩) n n) n cs.toList :=
  ⟨by rw [Array.length_toList, hs], .inr ⟨g, n, cs, rfl, hb, h, Nat.le_refl _, hn, hs, by rw [List.take_of_length_le (by rw [Array.length_toList, hs]; exact Nat.le_refl _)]⟩⟩
noncomputable def madeMid : Code := (Try.f13.body.bind (fromRegion 3)).getD .skip
set_option maxRecDepth 1000000 in
set_option maxHeartbeats 8000000 in
theorem madeHead (post : Ending → World → Prop) (w : World)
    (hmid : ∀ (wb p c xb b0 b1 : Nat) (lw tw Nv Lv : Value) (w1 : World) (x2 x3 x4 x5 x6 x7 x8 x9 x10 x11 x12 x13 x14 x15 x16 x17 x18 x19 x20 x21 x22 x23 x24 x25 x26 x27 x28 x29 x30 x31 x32 x33 x34 x35 x36 x37 x38 x39 x40 x41 x42 x43 x44 x45 x46 x47 x48 x49 x50 x51 x52 x53 x54 x55 x56 x57 x58 x59 : Value), Below w.heap.size w w1 → Mi w.heap.size w1 wb p c xb b0 b1 lw tw Nv Lv 0 [none] → Code.wp Try.prog madeMid (bodyPost Try.prog Try.f13 post) ⟨#[.pointer none, .pointer (some ⟨wb, 0, none⟩), x2, x3, x4, x5, x6, x7, x8, x9, x10, x11, x12, x13, x14, x15, x16, x17, x18, x19, x20, x21, x22, x23, x24, x25, x26, x27, x28, x29, x30, x31, x32, x33, x34, x35, x36, x37, x38, x39, x40, x41, x42, x43, x44, x45, x46, x47, x48, x49, x50, x51, x52, x53, x54, x55, x56, x57, x58, x59], []⟩ w1) :
    Calls Try.prog 13 #[] w post := by
  have HM := Lib.hid hmid
  clear hmid
  have n1 := Inn.new w
  go_enter Try.func13, Try.ntmps13
  go_wp2_with fail
  refine n1.mono ?_
  rintro e w1 ⟨b0, rfl, hb0, hI, hB1⟩
  unfold at0
  have n2 := bucket_any w1
  clear n1
  go_wp2_with fail
  refine n2.mono ?_
  rintro e w2 ⟨rfl, hK, hB2⟩
  unfold at0
  obtain ⟨b1, hb1⟩ : ∃ b1, b1 = w1.heap.size := ⟨_, rfl⟩
  rw [← hb1] at hK ⊢
  have hI2 := hI.below hB2
  have hBB : Below w.heap.size w w2 := hB1.trans (hB2.mono hB1.size)
  have hne : b0 ≠ b1 := by
    have := hI.footLt b0 (by simp [foot])
    omega
  have hK2 := hK.base (show w.heap.size ≤ b1 by rw [hb1]; exact hB1.size)
  clear n2 hI hK hB1 hB2 hb0 hb1
  go_wp2_with (first
    | (with_reducible refine wpList_runAt rfl _ rfl _ _ (build85n _ _ _ rfl) ?_)
    | (with_reducible refine wpList_runAt rfl _ rfl _ _ (build85 _ _ _ true _ rfl rfl) ?_)
    | (with_reducible refine wpList_runAt rfl _ rfl _ _ (bs86 _ _ _ _ _ rfl rfl rfl) ?_))
  obtain ⟨M, hM⟩ : ∃ M, M = w2.heap.size := ⟨_, rfl⟩
  simp only [Nat.add_assoc, Nat.reduceAdd] at *
  rw [← hM]
  obtain ⟨W, hW⟩ : ∃ W, W = (((((w2.alloc (.cells #[.pointer (some ⟨b0, 0, none⟩), .pointer (some ⟨b1, 0, none⟩)] 39)).alloc (.cells #[.pointer none] 64)).alloc (.cells rc2 85)).alloc (.cells #[.bool false] 4)).alloc (.cells #[.slice (some ⟨M + 2, 0, none⟩) 2 2, .slice (some ⟨M + 3, 0, none⟩) 1 1] 89)).alloc (.cells #[.slice (some ⟨M, 0, none⟩) 2 2, .slice (some ⟨M + 1, 0, none⟩) 1 1, .pointer none, .pointer (some ⟨M + 4, 0, none⟩)] 36) := ⟨_, rfl⟩
  rw [← hW]
  obtain ⟨g1, g2, g3, g4, g5, g6, hBW, hsW⟩ := madeSix w2 _ _ _ _ _ _ _ _ _ _ _ _ M hM W hW
  have hI6 := hI2.below hBW
  have hK6 := hK2.below hBW
  have hB6 : Below w.heap.size w W := hBB.trans (hBW.mono hBB.size)
  have hwM : w.heap.size ≤ M := by rw [hM]; exact hBB.size
  clear hW hBW hI2 hK2 hBB hM
  have nw := new_is 4 W (by omega) (by omega)
  refine nw.mono ?_
  rintro e w7 ⟨p, c, rfl, hP, hp1, hp2, hB7⟩
  unfold at0
  have k36 := g6.below hB7
  have c2 := k36.cell 2
  have f2 := k36.frozen 2
  simp only [List.getElem?_toArray, List.getElem?_cons_succ, List.getElem?_cons_zero] at c2
  have hwW : w.heap.size ≤ W.heap.size := hB6.size
  have hpM : p ≠ M + 5 := by omega
  have hcM : c ≠ M + 5 := by omega
  have HMi : Hid (Mi w.heap.size (w7.setCell ⟨M + 5, 2, none⟩ (.pointer (some ⟨p, 0, none⟩))) (M + 5) p c (M + 4) b0 b1 (.slice (some ⟨M, 0, none⟩) 2 2) (.slice (some ⟨M + 1, 0, none⟩) 1 1) (.slice (some ⟨M + 2, 0, none⟩) 2 2) (.slice (some ⟨M + 3, 0, none⟩) 1 1) 0 [none]) := Lib.hid (by
    have kk : Keep [M + 5] w7 (w7.setCell ⟨M + 5, 2, none⟩ (.pointer (some ⟨p, 0, none⟩))) := ⟨(Below.refl _ _).setCell (Nat.zero_le _) _, fun i hi hx => Below.heap_setCell _ _ _ _ (by simpa using hx)⟩
    have far : ∀ {g : Nat} {t : TypeId} {cs : Array Value}, Blk W g t cs → g ≠ M + 5 → Blk (w7.setCell ⟨M + 5, 2, none⟩ (.pointer (some ⟨p, 0, none⟩))) g t cs := fun h hne => (h.below hB7).keep kk (by simpa using hne)
    refine ⟨k36.set_ 2 _, ⟨by omega, by omega, by omega⟩, row_of (far g1 (by omega)) hwM rfl (by unfold maxLen; omega), row_of (far g2 (by omega)) (by omega) rfl (by unfold maxLen; omega), rfl, rfl, fun j h1 h2 => by omega, hP.keep kk (by simpa using hpM) (by simpa using hcM), ⟨far g5 (by omega), by omega, row_of (far g3 (by omega)) (by omega) rfl (by unfold maxLen; omega), row_of (far g4 (by omega)) (by omega) rfl (by unfold maxLen; omega), fun n hn => ?_⟩, (hI6.below hB7).keep kk fun x hx hm => ?_, ⟨(hK6.below hB7).keep kk fun x hx hm => ?_, List.Pairwise.nil⟩, hne⟩
    · simp only [ns0, List.mem_cons, List.not_mem_nil, or_false] at hn
      rcases hn with rfl | rfl <;> exact World.ownsRow_nil _ _ _ _
    · obtain ⟨d, nn, hv, -, -⟩ := hI6
      have e1 : x = b0 := List.mem_singleton.1 hx
      have e2 : x = M + 5 := List.mem_singleton.1 hm
      have h1 := hv.blk
      rw [← e1, e2] at h1
      unfold Blk at h1 g6; rw [g6] at h1; cases h1
    · have e1 : x = b1 := List.mem_singleton.1 hx
      have e2 : x = M + 5 := List.mem_singleton.1 hm
      have h1 := hK6.blk
      rw [← e1, e2] at h1
      unfold Blk at h1 g6; rw [g6] at h1; cases h1)
  have HB8 : Hid (Below w.heap.size w (w7.setCell ⟨M + 5, 2, none⟩ (.pointer (some ⟨p, 0, none⟩)))) := Lib.hid ((hB6.trans (hB7.mono hwW)).setCell (p := ⟨M + 5, 2, none⟩) (by show w.heap.size ≤ M + 5; omega) _)
  clear hP hB7 hI6 hK6 g1 g2 g3 g4 g5 g6 nw k36
  generalize hW8 : w7.setCell ⟨M + 5, 2, none⟩ (.pointer (some ⟨p, 0, none⟩)) = W8 at *
  dsimp only
  repeat (first | exact HM.out _ _ _ _ _ _ _ _ _ _ W8 _ _ _ _ _ _ _ _ _ _ _ _ _ _ _ _ _ _ _ _ _ _ _ _ _ _ _ _ _ _ _ _ _ _ _ _ _ _ _ _ _ _ _ _ _ _ _ _ _ _ _ _ _ _ _ _ _ _ HB8.out HMi.out | (rw [hW8]; exact HM.out _ _ _ _ _ _ _ _ _ _ W8 _ _ _ _ _ _ _ _ _ _ _ _ _ _ _ _ _ _ _ _ _ _ _ _ _ _ _ _ _ _ _ _ _ _ _ _ _ _ _ _ _ _ _ _ _ _ _ _ _ _ _ _ _ _ _ _ _ _ HB8.out HMi.out) | go_step)

end Go.Proofs.Ytgldgdpgbfejmaa
/- The law's 'made': between two stores. -/
namespace Go.Proofs.Ytgldgdpgbfejmaa
open Go.RowKit Go.Lib Go.Conc
set_option linter.unusedVariables false
set_option linter.unusedSimpArgs false
/-- what the loop's last statement leaves alone -/
structure Mr (base : Nat) (w : World) (p c b0 b1 : Nat) (lw Nv : Value) (n : Nat) (ts : List (Option Nat)) : Prop where
  ge : base ≤ p ∧ base ≤ c
  l : OwnK base w lw [b0, b1]
  len : ts.length = n + 1
  zero : ts[0]? = some none
  tok : ∀ j, 0 < j → j < n + 1 → ∃ t, ts[j]? = some (some t) ∧ Tok w t p j true ∧ base ≤ t
  pool : Pool w p c 4 (n : Int) ((upto 4).drop n)
  nodes : w.ownsRow base 85 131 Nv 2 (rrow ns0)
  inn : Inn base w b0 none (fun _ => .no) (.slice none 0 0) (.slice none 0 0)
  bck : Bck base w b1 none [] (.slice none 0 0) (.slice none 0 0)
  ne : b0 ≠ b1
structure MG (base : Nat) (w : World) (wb p c xb b0 b1 : Nat) (lw tw tv Nv Lw lvV : Value) (n : Nat) (ts ts2 : List (Option Nat)) (lv : List Bool) : Prop where
  b36 : Blk w wb 36 #[lw, tw, at0 p, at0 xb]
  b89 : Blk w xb 89 #[Nv, Lw]
  ge : base ≤ wb ∧ base ≤ xb
  tr : w.ownsRow base 64 1 tv ts.length (ts.map pt)
  lr : w.ownsRow base 4 1 lvV lv.length (boolsV lv)
  rest : Mr base w p c b0 b1 lw Nv n ts2
  base_le : base ≤ w.heap.size
section
variable {base : Nat} {w w' : World} {wb p c xb b0 b1 n : Nat} {lw tw tv Nv Lw lvV v' : Value} {ts ts2 ts' : List (Option Nat)} {lv lv' : List Bool}
theorem Mr.keep (h : Mr base w p c b0 b1 lw Nv n ts) {X : List Nat} (hk : Keep X w w') (hX : ∀ x ∈ X, ∃ cs t, w.heap[x]? = some (.cells cs t (0, 0)) ∧ (t = 64 ∨ t = 4 ∨ t = 36 ∨ t = 89)) : Mr base w' p c b0 b1 lw Nv n ts := by
  have no : ∀ {g : Nat} {t : TypeId} {cs : Array Value}, w.heap[g]? = some (.cells cs t (0, 0)) → ¬ (t = 64 ∨ t = 4 ∨ t = 36 ∨ t = 89) → g ∉ X := fun hb hn hm => by
    obtain ⟨cs', t', e, ht⟩ := hX _ hm
    rw [hb] at e; cases e; exact hn ht
  refine ⟨h.ge, own_keep h.l hk fun x hx e => ?_, h.len, h.zero, fun j h0 h1 => ?_, h.pool.keep hk (no h.pool.1 (by decide)) (fun hm => ?_), own_keep h.nodes hk fun x hx e => ?_, h.inn.keep hk fun x hx hm => ?_, ⟨h.bck.1.keep hk fun x hx hm => ?_, h.bck.2⟩, h.ne⟩
  · obtain ⟨cs, hc⟩ := own_cells h.l x e
    exact no hc (by decide) hx
  · obtain ⟨t, e1, hT, hb⟩ := h.tok j h0 h1
    exact ⟨t, e1, hT.keep hk (no hT (by decide)), hb⟩
  · obtain ⟨-, s, r, hch⟩ := h.pool
    obtain ⟨cs, t, e, -⟩ := hX _ hm
    rw [hch] at e; cases e
  · obtain ⟨cs, hc⟩ := own_cells h.nodes x e
    exact no hc (by decide) hx
  · have e1 : x = b0 := List.mem_singleton.1 hx
    subst e1
    obtain ⟨d, nn, hv, -, -⟩ := h.inn
    exact no hv.blk (by decide) hm
  · have e1 : x = b1 := List.mem_singleton.1 hx
    subst e1
    exact no h.bck.1.blk (by decide) hm
theorem MG.cells (h : MG base w wb p c xb b0 b1 lw tw tv Nv Lw lvV n ts ts2 lv) : (w.cell? ⟨wb, 1, none⟩ = some tw ∧ w.cell? ⟨wb, 3, none⟩ = some (.pointer (some ⟨xb, 0, none⟩)) ∧ w.cell? ⟨xb, 1, none⟩ = some Lw) ∧ w.frozen? ⟨wb, 1, none⟩ = false ∧ w.frozen? ⟨xb, 1, none⟩ = false :=
  ⟨⟨h.b36.cell 1, h.b36.cell 3, h.b89.cell 1⟩, h.b36.frozen 1, h.b89.frozen 1⟩
theorem MG.alloc (h : MG base w wb p c xb b0 b1 lw tw tv Nv Lw lvV n ts ts2 lv) (o : Obj) : MG base (w.alloc o) wb p c xb b0 b1 lw tw tv Nv Lw lvV n ts ts2 lv :=
  have hB := (Below.refl _ w).alloc (Nat.le_refl _) o
  have hk : Keep [] w (w.alloc o) := Keep.of_below hB
  ⟨h.b36.alloc o, h.b89.alloc o, h.ge, own_keep h.tr hk (by simp), own_keep h.lr hk (by simp), h.rest.keep hk (by simp), Nat.le_trans h.base_le hB.size⟩
theorem keep_grown {row : Option Nat} (hg : w.grownBy w' row) : Keep row.toList w w' := ⟨⟨hg.os, hg.tape, hg.output, hg.size, fun i hi => by omega⟩, fun i hi hx => hg.block i hi fun e => hx (by rw [← e]; simp)⟩
theorem MG.grownT (h : MG base w wb p c xb b0 b1 lw tw tv Nv Lw lvV n ts ts2 lv) (hg : w.grownBy w' tv.ownBlock) (ho : w'.ownsRow base 64 1 v' ts'.length (ts'.map pt)) : MG base w' wb p c xb b0 b1 lw tw v' Nv Lw lvV n ts' ts2 lv := by
  have hk := keep_grown hg
  have row : ∀ x ∈ tv.ownBlock.toList, ∃ cs, w.heap[x]? = some (.cells cs 64 (0, 0)) := fun x hx => own_cells h.tr x (by simpa using hx)
  have no : ∀ {g : Nat} {t : TypeId} {cs : Array Value}, w.heap[g]? = some (.cells cs t (0, 0)) → t ≠ 64 → g ∉ tv.ownBlock.toList := fun hb hn hm => by
    obtain ⟨cs', e⟩ := row _ hm
    rw [hb] at e; cases e; exact hn rfl
  refine ⟨h.b36.keep hk (no h.b36 (by decide)), h.b89.keep hk (no h.b89 (by decide)), h.ge, ho, own_keep h.lr hk fun x hx e => ?_, h.rest.keep hk fun x hx => ?_, Nat.le_trans h.base_le hg.size⟩
  · obtain ⟨cs, hc⟩ := own_cells h.lr x e
    exact no hc (by decide) hx
  · obtain ⟨cs, e⟩ := row x hx
    exact ⟨cs, 64, e, .inl rfl⟩
theorem MG.grownL (h : MG base w wb p c xb b0 b1 lw tw tv Nv Lw lvV n ts ts2 lv) (hg : w.grownBy w' lvV.ownBlock) (ho : w'.ownsRow base 4 1 v' lv'.length (boolsV lv')) : MG base w' wb p c xb b0 b1 lw tw tv Nv Lw v' n ts ts2 lv' := by
  have hk := keep_grown hg
  have row : ∀ x ∈ lvV.ownBlock.toList, ∃ cs, w.heap[x]? = some (.cells cs 4 (0, 0)) := fun x hx => own_cells h.lr x (by simpa using hx)
  have no : ∀ {g : Nat} {t : TypeId} {cs : Array Value}, w.heap[g]? = some (.cells cs t (0, 0)) → t ≠ 4 → g ∉ lvV.ownBlock.toList := fun hb hn hm => by
    obtain ⟨cs', e⟩ := row _ hm
    rw [hb] at e; cases e; exact hn rfl
  refine ⟨h.b36.keep hk (no h.b36 (by decide)), h.b89.keep hk (no h.b89 (by decide)), h.ge, own_keep h.tr hk fun x hx e => ?_, ho, h.rest.keep hk fun x hx => ?_, Nat.le_trans h.base_le hg.size⟩
  · obtain ⟨cs, hc⟩ := own_cells h.tr x e
    exact no hc (by decide) hx
  · obtain ⟨cs, e⟩ := row x hx
    exact ⟨cs, 4, e, .inr (.inl rfl)⟩
theorem keep_set (g i : Nat) (u : Value) : Keep [g] w (w.setCell ⟨g, i, none⟩ u) := ⟨(Below.refl _ _).setCell (Nat.zero_le _) _, fun i hi hx => Below.heap_setCell _ _ _ _ (by simpa using hx)⟩
theorem MG.set36 (h : MG base w wb p c xb b0 b1 lw tw tv Nv Lw lvV n ts ts2 lv) : MG base (w.setCell ⟨wb, 1, none⟩ tv) wb p c xb b0 b1 lw tv tv Nv Lw lvV n ts ts2 lv := by
  have hk := keep_set (w := w) wb 1 tv
  have no : ∀ {g : Nat} {t : TypeId} {cs : Array Value}, w.heap[g]? = some (.cells cs t (0, 0)) → t ≠ 36 → g ∉ [wb] := fun hb hn hm => by
    rw [List.mem_singleton.1 hm, show w.heap[wb]? = _ from h.b36] at hb; cases hb; exact hn rfl
  refine ⟨h.b36.set_ 1 _, h.b89.keep hk (no h.b89 (by decide)), h.ge, own_keep h.tr hk fun x hx e => ?_, own_keep h.lr hk fun x hx e => ?_, h.rest.keep hk fun x hx => ?_, Nat.le_trans h.base_le hk.all.size⟩
  · obtain ⟨cs, hc⟩ := own_cells h.tr x e
    exact no hc (by decide) hx
  · obtain ⟨cs, hc⟩ := own_cells h.lr x e
    exact no hc (by decide) hx
  · rw [List.mem_singleton.1 hx]
    exact ⟨_, 36, h.b36, .inr (.inr (.inl rfl))⟩
theorem MG.set89 (h : MG base w wb p c xb b0 b1 lw tw tv Nv Lw lvV n ts ts2 lv) : MG base (w.setCell ⟨xb, 1, none⟩ lvV) wb p c xb b0 b1 lw tw tv Nv lvV lvV n ts ts2 lv := by
  have hk := keep_set (w := w) xb 1 lvV
  have no : ∀ {g : Nat} {t : TypeId} {cs : Array Value}, w.heap[g]? = some (.cells cs t (0, 0)) → t ≠ 89 → g ∉ [xb] := fun hb hn hm => by
    rw [List.mem_singleton.1 hm, show w.heap[xb]? = _ from h.b89] at hb; cases hb; exact hn rfl
  refine ⟨h.b36.keep hk (no h.b36 (by decide)), h.b89.set_ 1 _, h.ge, own_keep h.tr hk fun x hx e => ?_, own_keep h.lr hk fun x hx e => ?_, h.rest.keep hk fun x hx => ?_, Nat.le_trans h.base_le hk.all.size⟩
  · obtain ⟨cs, hc⟩ := own_cells h.tr x e
    exact no hc (by decide) hx
  · obtain ⟨cs, hc⟩ := own_cells h.lr x e
    exact no hc (by decide) hx
  · rw [List.mem_singleton.1 hx]
    exact ⟨_, 89, h.b89, .inr (.inr (.inr rfl))⟩
theorem MG.toMi (h : MG base w wb p c xb b0 b1 lw tv tv Nv lvV lvV n ts ts (lv0 n)) : Mi base w wb p c xb b0 b1 lw tv Nv lvV n ts := by
  refine ⟨h.b36, ⟨h.ge.1, h.rest.ge⟩, h.rest.l, ?_, h.rest.len, h.rest.zero, h.rest.tok, h.rest.pool, ⟨h.b89, h.ge.2, h.rest.nodes, h.lr, fun m hm => ?_⟩, h.rest.inn, h.rest.bck, h.rest.ne⟩
  · have := h.tr
    rw [h.rest.len] at this
    exact this
  · simp only [ns0, List.mem_cons, List.not_mem_nil, or_false] at hm
    rcases hm with rfl | rfl <;> exact World.ownsRow_nil _ _ _ _
/-- behind a Take -/
theorem Mi.taken {i : Nat} {Lv : Value} (h : Mi base w wb p c xb b0 b1 lw tw Nv Lv i ts) {t : Nat} (hP : Pool w' p c 4 ((i : Int) + 1) ((upto 4).drop (i + 1))) (hT : Tok w' t p (i + 1) true) (ht : base ≤ t) (hk : Keep [p, c] w w') (hbase : base ≤ w.heap.size) :
    MG base w' wb p c xb b0 b1 lw tw tw Nv Lv Lv (i + 1) ts (ts ++ [some t]) (lv0 i) := by
  obtain ⟨hp, s, r, hch⟩ := h.pool
  have no : ∀ {g : Nat} {ty : TypeId} {cs : Array Value}, w.heap[g]? = some (.cells cs ty (0, 0)) → ty ≠ 110 → g ∉ [p, c] := fun hb hn hm => by
    simp only [List.mem_cons, List.not_mem_nil, or_false] at hm
    rcases hm with rfl | rfl
    · unfold Blk at hp; rw [hp] at hb; cases hb; exact hn rfl
    · rw [hch] at hb; cases hb
  have hll : (lv0 i).length = i + 1 := by simp [lv0]
  refine ⟨h.blk.keep hk (no h.blk (by decide)), h.ref.blk.keep hk (no h.ref.blk (by decide)), ⟨h.ge.1, h.ref.ge⟩, ?_, own_keep h.ref.live hk fun x hx e => ?_, ⟨h.ge.2, own_keep h.l hk fun x hx e => ?_, by rw [List.length_append, h.len]; rfl, by rw [List.getElem?_append_left (by rw [h.len]; omega)]; exact h.zero, fun j h0 h1 => ?_, by rw [Int.natCast_add]; exact hP, own_keep h.ref.nodes hk fun x hx e => ?_, h.inn.keep hk fun x hx hm => ?_, ⟨h.bck.1.keep hk fun x hx hm => ?_, h.bck.2⟩, h.ne⟩, Nat.le_trans hbase hk.all.size⟩
  · rw [h.len]
    exact own_keep h.t hk fun x hx e => by
      obtain ⟨cs, hc⟩ := own_cells h.t x e
      exact no hc (by decide) hx
  · obtain ⟨cs, hc⟩ := own_cells h.ref.live x e
    exact no hc (by decide) hx
  · obtain ⟨cs, hc⟩ := own_cells h.l x e
    exact no hc (by decide) hx
  · by_cases hj : j = i + 1
    · subst hj
      exact ⟨t, by rw [List.getElem?_append_right (by rw [h.len]; omega), h.len]; simp, hT, ht⟩
    · obtain ⟨t', e1, hT', hb⟩ := h.tok j h0 (by omega)
      exact ⟨t', by rw [List.getElem?_append_left (by rw [h.len]; omega)]; exact e1, hT'.keep hk (no hT' (by decide)), hb⟩
  · obtain ⟨cs, hc⟩ := own_cells h.ref.nodes x e
    exact no hc (by decide) hx
  · have e1 : x = b0 := List.mem_singleton.1 hx
    subst e1
    obtain ⟨d, nn, hv, -, -⟩ := h.inn
    exact no hv.blk (by decide) hm
  · have e1 : x = b1 := List.mem_singleton.1 hx
    subst e1
    exact no h.bck.1.blk (by decide) hm
end
end Go.Proofs.Ytgldgdpgbfejmaa
