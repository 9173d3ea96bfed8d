/- near.Longest: the first stop from below that has a value. -/
import Derived.Test.YtimhdegdmdilaaaHat
import Derived.Test.YtimhdegdmdilaaaHak
import Derived.OrdersIn
import Derived.RangeFuncCalls
import Derived.Laws.ResultCell
namespace Go.Proofs.Ytimhdegdmdilaaa
open Go.RowKit Go.Lib Go.Shelf
set_option linter.unusedVariables false
set_option linter.unnecessarySimpa false
set_option linter.unusedSimpArgs false
set_option linter.unnecessarySimpa false
set_option maxRecDepth 100000
attribute [local go_sem] Oper.semAt_some
theorem ownL_none {s : St} (h : s.t.val = none) : ownL s = none := by simp [ownL, h, vals]
theorem ownL_some {s : St} {v : ByteArray} (h : s.t.val = some v) : ownL s = some (s.pre, v) := by simp [ownL, h, vals, preE]
set_option maxHeartbeats 4000000 in
theorem longest_in (rt : Value) (key : ByteArray) (goal : Option Ent) (w : World)
    (K0 : ∀ W, Below w.heap.size w W → Calls Try.prog 59 #[rt, .string key] W fun e w' => ∃ v L, e = .returned v ∧ WayR W.heap.size w' v L ∧ (∀ c ∈ L, StOK w' c) ∧ (L.length ≤ 1000000 ∧ (∀ s ∈ L.map (·.s), ∀ e ∈ body s.t, s.pre.length + e.1.length ≤ 1000) ∧ (∀ s ∈ L.map (·.s), s.pre ++ s.r = key.data.toList) ∧ (L.map (·.s)).reverse.findSome? ownL = goal) ∧ Below W.heap.size W w') :
    CallsIn Fence.wide 5 Try.prog 22 #[rt, .string key] w fun e w' => e = .returned (entV goal) ∧ Below w.heap.size w w' := by
  have b4 := (Blk.new w 29 #[.string ⟨#[]⟩, .string ⟨#[]⟩]).alloc (.cells #[.bool false] 4)
  have b5 := Blk.new (w.alloc (.cells #[.string ⟨#[]⟩, .string ⟨#[]⟩] 29)) 4 #[.bool false]
  have hB : Below w.heap.size w ((w.alloc (.cells #[.string ⟨#[]⟩, .string ⟨#[]⟩] 29)).alloc (.cells #[.bool false] 4)) := ((Below.refl _ w).alloc (Nat.le_refl _) _).alloc (by simp) _
  have k0 := K0 _ hB
  clear K0
  simp only [World.size_alloc] at b4 b5
  refine callsIn_of_wp_marks Try.func22 rfl trivial ?_ rfl
  simp only [Try.ntmps22, List.size_toArray, List.length_cons, List.length_nil, Nat.reduceAdd, Nat.reduceSub, Array.replicate_succ, Array.replicate_zero, List.push_toArray, List.append_toArray, List.nil_append, List.cons_append]
  gi_wp2
  generalize (w.alloc (.cells #[.string ⟨#[]⟩, .string ⟨#[]⟩] 29)).alloc (.cells #[.bool false] 4) = W0 at *
  have h45 : w.heap.size ≠ w.heap.size + 1 := by omega
  have h45' : w.heap.size ≤ w.heap.size + 1 := by omega
  generalize w.heap.size + 1 = N5 at *
  generalize hz : w.heap.size = N4 at *
  have HN4 := Lib.hid hz.symm
  clear hz
  refine ⟨trivial, (callsIn_wide.2 k0).mono ?_⟩
  rintro e W1 ⟨v, L, rfl, hR, hL, ⟨hLN, hSH, hWK, hAW⟩, hB1⟩
  obtain ⟨A, c, rfl⟩ := own_formN hR
  clear k0
  gi_wp2
  refine ⟨trivial, (callsIn_wide.2 (Its.back_any _ _ _ _)).mono ?_⟩
  rintro e w' ⟨rfl, rfl⟩
  gi_wp2
  have HLL := Lib.hid hLN
  have bB := Its.CBlk.new W1 85 #[.slice A L.length c]
  have hBx := (Below.refl _ W1).alloc (Nat.le_refl _) (.cells #[.slice A L.length c] 85)
  have b4 := (b4.below hB1).below hBx
  have b5 := (b5.below hB1).below hBx
  have hR := own_keep hR (Keep.of_below (X := []) hBx) (by simp)
  have HL := Lib.hid (fun c hc => (hL c hc).below hBx)
  have hB := hB.trans ((hB1.trans (hBx.mono hB1.size)).mono (by rw [HN4.out]; exact hB.size))
  have hW1 : W0.heap.size ≤ W1.heap.size := hB1.size
  clear hL hB1
  have hBs := bB.lt
  generalize W1.alloc (.cells #[.slice A L.length c] 85) = W2 at *
  generalize W1.heap.size = Bs at *
  refine wpIn_rangeFunc_ownH rfl (by decide) (gf := 89) (lb := #[.pointer (some ⟨Bs, 0, none⟩)]) rfl trivial (enters_of Try.func89 (by kernel_rfl) rfl)
    (Its.back_stops (5 - 1) Bs W2.heap.size W0.heap.size (.slice A L.length c) L (by decide) hLN W2 bB (Nat.le_refl _) hR (fun g hg => by obtain ⟨cur, hc⟩ := own_cells hR g hg; exact (Array.getElem?_eq_some_iff.1 hc).1)) Its.KpK_t (Its.KpK_b (Nat.le_refl _) hBs) (Below.refl _ _) (fun _ => rfl)
    (fun pre W => (∀ x ∈ pre, ownL x.2.1.s = none) ∧ Below W2.heap.size W2 W)
    (fun c pre W => (((c = .ret ∧ ((pre.map fun x => x.2.1.s).findSome? ownL).isSome = true) ∧ Blk W N4 29 (entC ((pre.map fun x => x.2.1.s).findSome? ownL)).toArray) ∧ Blk W N5 4 #[.bool true]) ∧ Below N4 w W)
    (OwnFrom.and (ownFrom_pure _ _) (ownFrom_below (Nat.le_refl _) (Nat.le_refl _)))
    (fun c => OwnFrom.and (OwnFrom.and (OwnFrom.and (ownFrom_pure _ _) (Own.from (fun s X Y row hs hg hr => hs.own hg hr) _)) (Own.from (fun s X Y row hs hg hr => hs.own hg hr) _)) (ownFrom_below (by rw [HN4.out]; exact Nat.le_refl _) (by rw [HN4.out]; exact hB.size)))
    ⟨by simp, Below.refl _ _⟩
    (fun x a' W => ∃ N7, Blk W N7 88 #[at0 x.2.1.b, .string x.2.1.key, x.2.1.vl, x.2.1.vm] ∧ W2.heap.size ≤ N7 ∧ a' = { tmps := #[rt, .string key, undef, undef, .pointer (some ⟨N4, 0, none⟩), .pointer (some ⟨N5, 0, none⟩), undef, .pointer (some ⟨N7, 0, none⟩), undef, undef, rt, .string key, .slice A L.length c, .func (.func 89) #[] #[.pointer (some ⟨Bs, 0, none⟩)], .int .i64 x.1, x.2.1.val, undef, undef, undef, undef, undef, undef, undef, undef, undef, undef, undef, undef], defers := [] })
    (fun x a' => fun s X Y row hs hg hr => by obtain ⟨N7, h1, h2, h3⟩ := hs; exact ⟨N7, h1.own hg (fun r e => (hr r e).2), h2, h3⟩)
    ?assign ?body ?done ?stop
  case assign =>
    rintro l pre x W K ⟨hE, hB1⟩ hK
    have hbl : Blk (W.alloc (.cells x.2.1.cells.toArray 88)) W.heap.size 88 x.2.1.cells.toArray := Blk.new W 88 _
    have hBa := (Below.refl _ W).alloc (Nat.le_refl _) (.cells x.2.1.cells.toArray 88)
    have hK' := hK { tmps := #[rt, .string key, undef, undef, .pointer (some ⟨N4, 0, none⟩), .pointer (some ⟨N5, 0, none⟩), undef, .pointer (some ⟨W.heap.size, 0, none⟩), undef, undef, rt, .string key, .slice A L.length c, .func (.func 89) #[] #[.pointer (some ⟨Bs, 0, none⟩)], .int .i64 x.1, x.2.1.val, undef, undef, undef, undef, undef, undef, undef, undef, undef, undef, undef, undef], defers := [] } _ ((keeps_of_below hBa).from _) ⟨hBa.mono hB1.size, hBa.block Bs (Nat.lt_of_lt_of_le hBs hB1.size)⟩ ⟨hE, hB1.trans (hBa.mono hB1.size)⟩ ⟨W.heap.size, hbl, hB1.size, rfl⟩
    clear hK hE hB1 hbl hBa
    obtain ⟨x1, ⟨C, hCL⟩⟩ := x
    obtain ⟨Cs, Cb, Ck, Cl, Cm⟩ := C
    obtain ⟨A1, c1, e1⟩ := (HL.out _ hCL).less.form
    obtain ⟨A2, c2, e2⟩ := (HL.out _ hCL).more.form
    dsimp only at e1 e2
    subst e1 e2
    clear hSH hWK hAW b4 b5 hR hB bB hBx hW1
    simp only [StC.cells, StC.val, at0] at hK' ⊢
    gi_wp2
    exact hK'
  case body =>
    rintro l pre x a' W hl hr ⟨hE, hB1⟩ ⟨N7, b7, hN7, rfl⟩ hlt
    have hx := (HL.out _ x.2.2).below hB1
    have hsh := hSH x.2.1.s (List.mem_map.2 ⟨_, x.2.2, rfl⟩)
    have hWs := hB1.size
    have hw2 := hB.size
    rw [← HN4.out] at hw2
    have hw2' : N4 ≤ W2.heap.size := hw2
    have hN74 : N7 ≠ N4 := by have := b4.lt; omega
    have hN75 : N7 ≠ N5 := by have := b5.lt; omega
    have b4 := b4.below hB1
    have b5 := b5.below hB1
    obtain ⟨x1, ⟨C, hCL⟩⟩ := x
    obtain ⟨s, sb, sk, sl, sm⟩ := C
    obtain ⟨A1, c1, e1⟩ := hx.less.form
    obtain ⟨A2, c2, e2⟩ := hx.more.form
    obtain ⟨M, hM⟩ : ∃ M, M = (moreS s).length := ⟨_, rfl⟩
    dsimp only at e1 e2 hsh
    rw [← hM] at e2
    subst e1 e2
    dsimp only at b7 hx
    refine Code.wpIn_mono (Q := fun e a w' => (e = .normal ∧ ownL s = none ∧ Below W.heap.size W w') ∨ (e = .ret ∧ (ownL s).isSome = true ∧ Blk w' N4 29 (entC (ownL s)).toArray ∧ Blk w' N5 4 #[.bool true] ∧ Below N4 W w' ∧ KeepsOthers W w')) ?_ ?_
    · rintro e a w' (⟨rfl, hm, hB2⟩ | ⟨rfl, ho, h4, h5', hB2, hk2⟩)
      · refine ⟨(keeps_of_below hB2).from _, ⟨hB2.mono hWs, hB2.block Bs (Nat.lt_of_lt_of_le hBs hWs)⟩, fun x' hx' => ?_, hB1.trans (hB2.mono hWs)⟩
        rcases List.mem_append.1 hx' with h | h
        · exact hE x' h
        · obtain rfl := List.mem_singleton.1 h
          exact hm
      · have hfs : ((pre ++ [(x1, (⟨⟨s, sb, sk, .slice A1 (lessS s).length c1, .slice A2 M c2⟩, hCL⟩ : {c // c ∈ L}))]).map fun x => x.2.1.s).findSome? ownL = ownL s := by
          rw [List.map_append, List.findSome?_append, List.findSome?_eq_none_iff.2 (fun s' hs' => by obtain ⟨x', h1, rfl⟩ := List.mem_map.1 hs'; exact hE x' h1)]
          simp
        refine ⟨hk2.from _, ⟨⟨⟨rfl, by rw [hfs]; exact ho⟩, by rw [hfs]; exact h4⟩, h5'⟩, (hB.trans (hB1.mono hw2')).trans hB2⟩
    have kv := value_any _ sb s.t W hx.rad
    have hk1 : sk.data.toList = s.pre := hx.key
    have y0 := b7.cell 0
    have HB7 := Lib.hid b7
    have HB4 := Lib.hid b4
    have HB5 := Lib.hid b5
    have HNW := Lib.hid (show N4 ≤ W.heap.size by omega)
    have h54 := Ne.symm h45
    unfold at0 at kv y0 HB7
    clear hSH hWK hAW b4 b5 hR hB bB hBx hW1 b7 hx hsh hE hM
    cases hv : s.t.val with
    | none =>
      have HO := Lib.hid (ownL_none hv)
      rw [hv] at kv
      clear hv hk1
      gi_wp2
      refine ⟨trivial, (CallsIn.inRound l (callsIn_wide.2 kv)).mono ?_⟩
      rintro e wA ⟨rfl, hBA⟩
      gi_wp2
      exact HO.out
    | some v =>
      have HO := Lib.hid (ownL_some hv)
      have HK := Lib.hid (strOf_self hk1)
      rw [hv] at kv
      clear hv hk1
      gi_wp2
      refine ⟨trivial, (CallsIn.inRound l (callsIn_wide.2 kv)).mono ?_⟩
      rintro e wA ⟨rfl, hBA⟩
      clear kv y0
      have y1 := (HB7.out.below hBA).cell 1
      have h4 := HB4.out.below hBA
      have h5 := HB5.out.below hBA
      have z0 := h4.cell 0
      have z1 := h4.cell 1
      have zf := h4.frozen 0
      have zf1 := h4.frozen 1
      have g5 := (h5.far (p := ⟨N4, 0, none⟩) h54 (.string sk)).far (p := ⟨N4, 1, none⟩) h54 (.string v)
      have z5 := g5.cell 0
      have zf5 := g5.frozen 0
      have HH := Lib.hid (⟨(h4.set2 (.string sk) (.string v)).far (p := ⟨N5, 0, none⟩) h45 (.bool true), g5.set_ 0 (.bool true),
        (((hBA.mono HNW.out).setCell (p := ⟨N4, 0, none⟩) (Nat.le_refl _) (.string sk)).setCell (p := ⟨N4, 1, none⟩) (Nat.le_refl _) (.string v)).setCell (p := ⟨N5, 0, none⟩) h45' (.bool true),
        (((keeps_of_below hBA).trans (KeepsOthers.setCell _ ⟨N4, 0, none⟩ (.string sk))).trans (KeepsOthers.setCell _ ⟨N4, 1, none⟩ (.string v))).trans (KeepsOthers.setCell _ ⟨N5, 0, none⟩ (.bool true))⟩ : _ ∧ _ ∧ _ ∧ _)
      clear h4 h5 g5 hBA
      gi_wp2
      refine ⟨by rw [HO.out]; rfl, ?_, HH.out.2.1, HH.out.2.2.1, HH.out.2.2.2⟩
      rw [HO.out]
      unfold entC
      dsimp only
      rw [HK.out]
      exact HH.out.1
  case done =>
    rintro D ys W hD hys ⟨hE, hB1⟩ hK
    obtain rfl : goal = none := by
      rw [← hAW, ← List.map_reverse, ← hys, List.map_map]
      exact List.findSome?_eq_none_iff.2 (fun s' hs' => by obtain ⟨x', h1, rfl⟩ := List.mem_map.1 hs'; exact hE x' h1)
    have hw2 := hB.size
    rw [← HN4.out] at hw2
    have b4 := b4.below hB1
    have b5 := b5.below hB1
    have z0 := b4.cell 0
    have zf := b4.frozen 0
    have zf1 := b4.frozen 1
    have z1 := b4.cell 1
    have z5 := ((b5.far (p := ⟨N4, 0, none⟩) (Ne.symm h45) (.string ⟨#[]⟩)).far (p := ⟨N4, 1, none⟩) (Ne.symm h45) (.string ⟨#[]⟩)).cell 0
    have zf5 := ((b5.far (p := ⟨N4, 0, none⟩) (Ne.symm h45) (.string ⟨#[]⟩)).far (p := ⟨N4, 1, none⟩) (Ne.symm h45) (.string ⟨#[]⟩)).frozen 0
    have F4 := (b4.set2 (.string ⟨#[]⟩) (.string ⟨#[]⟩)).far (p := ⟨N5, 0, none⟩) h45 (.bool false)
    have F5 := ((b5.far (p := ⟨N4, 0, none⟩) (Ne.symm h45) (.string ⟨#[]⟩)).far (p := ⟨N4, 1, none⟩) (Ne.symm h45) (.string ⟨#[]⟩)).set_ 0 (.bool false)
    have hK' := (((KeepsOthers.setCell W ⟨N4, 0, none⟩ (.string ⟨#[]⟩)).trans (KeepsOthers.setCell _ ⟨N4, 1, none⟩ (.string ⟨#[]⟩))).trans (KeepsOthers.setCell _ ⟨N5, 0, none⟩ (.bool false))).same D _ hK rfl
    have hB2 := (((hB.trans (hB1.mono hw2)).setCell (p := ⟨N4, 0, none⟩) (Nat.le_refl _) (.string ⟨#[]⟩)).setCell (p := ⟨N4, 1, none⟩) (Nat.le_refl _) (.string ⟨#[]⟩)).setCell (p := ⟨N5, 0, none⟩) h45' (.bool false)
    have D4 := F4.own (grownBy_putObj' _ D (.deferred none)) (fun r e => by cases e; exact ⟨_, hK', rfl⟩)
    have D5 := F5.own (grownBy_putObj' _ D (.deferred none)) (fun r e => by cases e; exact ⟨_, hK', rfl⟩)
    have hB3 := hB2.trans (belowK_b (w := w) (by rw [HN4.out]; exact Nat.le_refl _) _ D _ (.deferred none) (by rw [HN4.out] at hw2; exact Nat.le_trans hw2 hD) hK' rfl rfl)
    have HH := Lib.hid (And.intro D4 (And.intro D5 (And.intro hK' hB3)))
    have f10 : ((W.setCell ⟨N4, 0, none⟩ (.string ⟨#[]⟩)).frozen? ⟨N4, 1, none⟩) = false := (b4.set_ 0 (.string ⟨#[]⟩)).frozen 1
    clear hys hE hB1 hK b4 b5 F4 F5 hK' hB2 D4 D5 hB3 hB hR HL hWK hAW hSH bB hBx hBs hD
    gi_wp2
    refine ⟨by simp, .inl ⟨_, _, rfl, run_takeDeferred HH.out.2.2.1, ?_⟩⟩
    refine ⟨_, ret_pair2 rfl _ _ N4 N5 (entC none) false rfl rfl HH.out.1 rfl HH.out.2.1, rfl, HH.out.2.2.2.mono (Nat.le_of_eq HN4.out.symm)⟩
  case stop =>
    rintro D c' pre W hD hpre ⟨⟨⟨⟨rfl, ho⟩, h4⟩, h5'⟩, hB1⟩ hK
    have hgl : (pre.map fun x => x.2.1.s).findSome? ownL = goal := by
      obtain ⟨rest, hrest⟩ := hpre
      symm
      rw [← hAW, ← List.map_reverse, ← hrest, List.map_append, List.findSome?_append, List.map_map]
      obtain ⟨o, ho'⟩ := Option.isSome_iff_exists.1 ho
      rw [show List.map ((fun x : StC => x.s) ∘ fun x : Nat × {c // c ∈ L} => x.2.1) pre = pre.map fun x => x.2.1.s from rfl, ho']
      rfl
    rw [hgl] at ho h4
    have hw2 := hB.size
    rw [← HN4.out] at hw2
    have D4 := h4.own (grownBy_putObj' _ D (.deferred none)) (fun r e => by cases e; exact ⟨_, hK, rfl⟩)
    have D5 := h5'.own (grownBy_putObj' _ D (.deferred none)) (fun r e => by cases e; exact ⟨_, hK, rfl⟩)
    have hB3 := hB1.trans (belowK_b (w := w) (by rw [HN4.out]; exact Nat.le_refl _) _ D _ (.deferred none) (by rw [HN4.out] at hw2; exact Nat.le_trans hw2 hD) hK rfl rfl)
    have HH := Lib.hid (And.intro D4 (And.intro D5 (And.intro hK hB3)))
    have HO := Lib.hid ho
    clear hgl hpre ho h4 h5' hB1 hK D4 D5 hB3 hB hR HL hWK hAW hSH bB hBx hBs hD b4 b5
    gi_wp2
    refine ⟨by simp, .inl ⟨_, _, rfl, run_takeDeferred HH.out.2.2.1, ?_⟩⟩
    refine ⟨_, ret_pair2 rfl _ _ N4 N5 (entC goal) true rfl rfl HH.out.1 (by cases goal <;> rfl) HH.out.2.1, congrArg Ending.returned (by rw [entV_eq, HO.out]), HH.out.2.2.2.mono (Nat.le_of_eq HN4.out.symm)⟩
/-- Longest of a tree -/
theorem longest_any (b : Nat) (t : RX) (key : ByteArray) (w : World) (h : RadT w b t) (hc : Can t) (hs : Shrt 1000 t) (hk : key.size ≤ 1000) :
    Calls Try.prog 22 #[at0 b, .string key] w fun e w' => e = .returned (entV (((body t).filter (pfE key.data.toList)).getLast?)) ∧ Below w.heap.size w w' := by
  refine callsIn_wide.1 (longest_in (at0 b) key _ w fun W hB => (way_any b t key W (h.stay hB) hc hs hk).mono ?_)
  rintro e w' ⟨v, L, rfl, hR, hL, hW, hB1⟩
  refine ⟨v, L, rfl, hR, hL, ⟨?_, way_shrt hW hc (fun e he => by have := hs e he; simpa using this), fun s hs' => by rw [way_key hW s hs', List.nil_append], by rw [longest_way hW hc, preE_nil]⟩, hB1⟩
  have := way_len hW hc
  rw [List.length_map] at this
  have h3 : key.data.toList.length = key.size := size_of key
  omega
/-- .. of the tree that isn't there -/
theorem longest_nil (key : ByteArray) (w : World) : Calls Try.prog 22 #[.pointer none, .string key] w fun e w' => e = .returned (entV none) ∧ Below w.heap.size w w' := by
  refine callsIn_wide.1 (longest_in (.pointer none) key none w fun W hB => (way_nil key W).mono ?_)
  rintro e w' ⟨rfl, hB1⟩
  exact ⟨.slice none 0 0, [], rfl, ⟨rfl, .inl ⟨rfl, rfl⟩⟩, by simp, ⟨by simp, by simp, by simp, by simp⟩, hB1⟩
end Go.Proofs.Ytimhdegdmdilaaa
/- near.Below: the first stop from below that has less, or a value of its own. -/
namespace Go.Proofs.Ytimhdegdmdilaaa
open Go.RowKit Go.Lib Go.Shelf
set_option linter.unusedVariables false
set_option linter.unnecessarySimpa false
set_option linter.unusedSimpArgs false
set_option linter.unnecessarySimpa false
set_option maxRecDepth 100000
attribute [local go_sem] Oper.semAt_some
theorem ownB_end {s : St} (h : lessS s = []) (hr : s.r = []) : ownB s = none := by simp [ownB, h, hr, bodyL]
theorem ownB_none {s : St} (h : lessS s = []) (hv : s.t.val = none) : ownB s = none := by simp [ownB, h, hv, bodyL, vals]
theorem ownB_some {s : St} {v : ByteArray} (h : lessS s = []) (hv : s.t.val = some v) (hr : s.r ≠ []) : ownB s = some (s.pre, v) := by simp [ownB, h, hv, hr, bodyL, vals, preE]
theorem ownB_kid {s : St} (hc : Can s.t) {Q : Nat} (h : Q + 1 = (lessS s).length) : rat (lessS s) Q ∈ s.t.kids ∧ ownB s = ((body (rat (lessS s) Q)).getLast?).map (preE (s.pre ++ (rat (lessS s) Q).lab)) ∧ ∃ e, (body (rat (lessS s) Q)).getLast? = some e := by
  have hne : lessS s ≠ [] := fun e => by rw [e] at h; simp at h
  have hk : rat (lessS s) Q = (lessS s).getLast hne := by
    have h1 := rat_get (ks := lessS s) (j := Q) (by omega)
    rw [List.getLast_eq_getElem]
    rw [List.getElem?_eq_getElem (by omega)] at h1
    have := Option.some.inj h1
    rw [← this]
    congr 1
    omega
  obtain ⟨ks, k, hks⟩ : ∃ ks k, lessS s = ks ++ [k] := ⟨_, _, (List.dropLast_concat_getLast hne).symm⟩
  have hk' : rat (lessS s) Q = k := by
    rw [hk]
    simp only [hks, List.getLast_concat]
  have hmem : k ∈ s.t.kids := List.mem_of_mem_take (show k ∈ lessS s by rw [hks]; simp)
  rw [hk']
  obtain ⟨e, he⟩ := kid_some hc hmem
  cases hb : (body k).getLast? with
  | none => rw [List.getLast?_eq_none_iff] at hb; rw [hb] at he; simp at he
  | some x =>
    refine ⟨hmem, ?_, x, rfl⟩
    have hkk : bodyL [k] = (body k).map (preE k.lab) := by rw [bodyL_cons]; simp [bodyL]
    unfold ownB
    rw [hks, bodyL_append, hkk, ← List.append_assoc, List.getLast?_append, List.getLast?_map, hb]
    simp [preE]
set_option maxHeartbeats 4000000 in
theorem below_in (rt : Value) (key : ByteArray) (goal : Option Ent) (w : World)
    (K0 : ∀ W, Below w.heap.size w W → Calls Try.prog 59 #[rt, .string key] W fun e w' => ∃ v L, e = .returned v ∧ WayR W.heap.size w' v L ∧ (∀ c ∈ L, StOK w' c) ∧ (L.length ≤ 1000000 ∧ (∀ s ∈ L.map (·.s), ∀ e ∈ body s.t, s.pre.length + e.1.length ≤ 1000) ∧ (∀ s ∈ L.map (·.s), s.pre ++ s.r = key.data.toList) ∧ (L.map (·.s)).reverse.findSome? ownB = goal) ∧ Below W.heap.size W w') :
    CallsIn Fence.wide 5 Try.prog 31 #[rt, .string key] w fun e w' => e = .returned (entV goal) ∧ Below w.heap.size w w' := by
  have b3 := ((Blk.new w 9 #[.string key]).alloc (.cells #[.string ⟨#[]⟩, .string ⟨#[]⟩] 29)).alloc (.cells #[.bool false] 4)
  have b4 := (Blk.new (w.alloc (.cells #[.string key] 9)) 29 #[.string ⟨#[]⟩, .string ⟨#[]⟩]).alloc (.cells #[.bool false] 4)
  have b5 := Blk.new ((w.alloc (.cells #[.string key] 9)).alloc (.cells #[.string ⟨#[]⟩, .string ⟨#[]⟩] 29)) 4 #[.bool false]
  have hB : Below w.heap.size w (((w.alloc (.cells #[.string key] 9)).alloc (.cells #[.string ⟨#[]⟩, .string ⟨#[]⟩] 29)).alloc (.cells #[.bool false] 4)) := (((Below.refl _ w).alloc (Nat.le_refl _) _).alloc (by simp) _).alloc (by simp; omega) _
  have k0 := K0 _ hB
  clear K0
  simp only [World.size_alloc] at b3 b4 b5
  refine callsIn_of_wp_marks Try.func31 rfl trivial ?_ rfl
  simp only [Try.ntmps31, List.size_toArray, List.length_cons, List.length_nil, Nat.reduceAdd, Nat.reduceSub, Array.replicate_succ, Array.replicate_zero, List.push_toArray, List.append_toArray, List.nil_append, List.cons_append]
  gi_wp2
  generalize ((w.alloc (.cells #[.string key] 9)).alloc (.cells #[.string ⟨#[]⟩, .string ⟨#[]⟩] 29)).alloc (.cells #[.bool false] 4) = W0 at *
  have h45 : w.heap.size + 1 ≠ w.heap.size + 1 + 1 := by omega
  have h34 : w.heap.size ≤ w.heap.size + 1 := by omega
  have h35 : w.heap.size ≤ w.heap.size + 1 + 1 := by omega
  have h45' : w.heap.size + 1 ≤ w.heap.size + 1 + 1 := by omega
  generalize w.heap.size + 1 + 1 = N5 at *
  generalize w.heap.size + 1 = N4 at *
  generalize hz : w.heap.size = N3 at *
  have HN4 := Lib.hid hz.symm
  clear hz
  have y3 := b3.cell 0
  refine ⟨trivial, (callsIn_wide.2 k0).mono ?_⟩
  rintro e W1 ⟨v, L, rfl, hR, hL, ⟨hLN, hSH, hWK, hAW⟩, hB1⟩
  obtain ⟨A, c, rfl⟩ := own_formN hR
  clear k0 y3
  gi_wp2
  refine ⟨trivial, (callsIn_wide.2 (Its.back_any _ _ _ _)).mono ?_⟩
  rintro e w' ⟨rfl, rfl⟩
  gi_wp2
  have HLL := Lib.hid hLN
  have bB := Its.CBlk.new W1 85 #[.slice A L.length c]
  have hBx := (Below.refl _ W1).alloc (Nat.le_refl _) (.cells #[.slice A L.length c] 85)
  have b3 := (b3.below hB1).below hBx
  have b4 := (b4.below hB1).below hBx
  have b5 := (b5.below hB1).below hBx
  have hR := own_keep hR (Keep.of_below (X := []) hBx) (by simp)
  have HL := Lib.hid (fun c hc => (hL c hc).below hBx)
  have hB := hB.trans ((hB1.trans (hBx.mono hB1.size)).mono (by rw [HN4.out]; exact hB.size))
  have hW1 : W0.heap.size ≤ W1.heap.size := hB1.size
  clear hL hB1
  have hBs := bB.lt
  generalize W1.alloc (.cells #[.slice A L.length c] 85) = W2 at *
  generalize W1.heap.size = Bs at *
  refine wpIn_rangeFunc_ownH rfl (by decide) (gf := 89) (lb := #[.pointer (some ⟨Bs, 0, none⟩)]) rfl trivial (enters_of Try.func89 (by kernel_rfl) rfl)
    (Its.back_stops (5 - 1) Bs W2.heap.size W0.heap.size (.slice A L.length c) L (by decide) hLN W2 bB (Nat.le_refl _) hR (fun g hg => by obtain ⟨cur, hc⟩ := own_cells hR g hg; exact (Array.getElem?_eq_some_iff.1 hc).1)) Its.KpK_t (Its.KpK_b (Nat.le_refl _) hBs) (Below.refl _ _) (fun _ => rfl)
    (fun pre W => (∀ x ∈ pre, ownB x.2.1.s = none) ∧ Below W2.heap.size W2 W)
    (fun c pre W => (((c = .ret ∧ ((pre.map fun x => x.2.1.s).findSome? ownB).isSome = true) ∧ Blk W N4 29 (entC ((pre.map fun x => x.2.1.s).findSome? ownB)).toArray) ∧ Blk W N5 4 #[.bool true]) ∧ Below N3 w W)
    (OwnFrom.and (ownFrom_pure _ _) (ownFrom_below (Nat.le_refl _) (Nat.le_refl _)))
    (fun c => OwnFrom.and (OwnFrom.and (OwnFrom.and (ownFrom_pure _ _) (Own.from (fun s X Y row hs hg hr => hs.own hg hr) _)) (Own.from (fun s X Y row hs hg hr => hs.own hg hr) _)) (ownFrom_below (by rw [HN4.out]; exact Nat.le_refl _) (by rw [HN4.out]; exact hB.size)))
    ⟨by simp, Below.refl _ _⟩
    (fun x a' W => ∃ N7, Blk W N7 88 #[at0 x.2.1.b, .string x.2.1.key, x.2.1.vl, x.2.1.vm] ∧ W2.heap.size ≤ N7 ∧ a' = { tmps := #[rt, .string key, undef, .pointer (some ⟨N3, 0, none⟩), .pointer (some ⟨N4, 0, none⟩), .pointer (some ⟨N5, 0, none⟩), undef, .pointer (some ⟨N7, 0, none⟩), undef, undef, undef, rt, .string key, .slice A L.length c, .func (.func 89) #[] #[.pointer (some ⟨Bs, 0, none⟩)], .int .i64 x.1, x.2.1.val, undef, undef, undef, undef, undef, undef, undef, undef, undef, undef, undef, undef, undef, undef, undef, undef, undef, undef, undef, undef, undef, undef, undef, undef, undef, undef, undef, undef, undef, undef, undef, undef, undef, undef, undef, undef, undef, undef, undef, undef, undef, undef], defers := [] })
    (fun x a' => fun s X Y row hs hg hr => by obtain ⟨N7, h1, h2, h3⟩ := hs; exact ⟨N7, h1.own hg (fun r e => (hr r e).2), h2, h3⟩)
    ?assign ?body ?done ?stop
  case assign =>
    rintro l pre x W K ⟨hE, hB1⟩ hK
    have hbl : Blk (W.alloc (.cells x.2.1.cells.toArray 88)) W.heap.size 88 x.2.1.cells.toArray := Blk.new W 88 _
    have hBa := (Below.refl _ W).alloc (Nat.le_refl _) (.cells x.2.1.cells.toArray 88)
    have hK' := hK { tmps := #[rt, .string key, undef, .pointer (some ⟨N3, 0, none⟩), .pointer (some ⟨N4, 0, none⟩), .pointer (some ⟨N5, 0, none⟩), undef, .pointer (some ⟨W.heap.size, 0, none⟩), undef, undef, undef, rt, .string key, .slice A L.length c, .func (.func 89) #[] #[.pointer (some ⟨Bs, 0, none⟩)], .int .i64 x.1, x.2.1.val, undef, undef, undef, undef, undef, undef, undef, undef, undef, undef, undef, undef, undef, undef, undef, undef, undef, undef, undef, undef, undef, undef, undef, undef, undef, undef, undef, undef, undef, undef, undef, undef, undef, undef, undef, undef, undef, undef, undef, undef, undef, undef], defers := [] } _ ((keeps_of_below hBa).from _) ⟨hBa.mono hB1.size, hBa.block Bs (Nat.lt_of_lt_of_le hBs hB1.size)⟩ ⟨hE, hB1.trans (hBa.mono hB1.size)⟩ ⟨W.heap.size, hbl, hB1.size, rfl⟩
    clear hK hE hB1 hbl hBa
    obtain ⟨x1, ⟨C, hCL⟩⟩ := x
    obtain ⟨Cs, Cb, Ck, Cl, Cm⟩ := C
    obtain ⟨A1, c1, e1⟩ := (HL.out _ hCL).less.form
    obtain ⟨A2, c2, e2⟩ := (HL.out _ hCL).more.form
    dsimp only at e1 e2
    subst e1 e2
    clear hSH hAW b4 b5 hR hB bB hBx hW1
    simp only [StC.cells, StC.val, at0] at hK' ⊢
    gi_wp2
    exact hK'
  case body =>
    rintro l pre x a' W hl hr ⟨hE, hB1⟩ ⟨N7, b7, hN7, rfl⟩ hlt
    have hx := (HL.out _ x.2.2).below hB1
    have hsh := hSH x.2.1.s (List.mem_map.2 ⟨_, x.2.2, rfl⟩)
    have hky := hWK x.2.1.s (List.mem_map.2 ⟨_, x.2.2, rfl⟩)
    have hWs := hB1.size
    have hw2 := hB.size
    rw [← HN4.out] at hw2
    have hw2' : N3 ≤ W2.heap.size := hw2
    have b3 := b3.below hB1
    have hN74 : N7 ≠ N4 := by have := b4.lt; omega
    have hN75 : N7 ≠ N5 := by have := b5.lt; omega
    have b4 := b4.below hB1
    have b5 := b5.below hB1
    obtain ⟨x1, ⟨C, hCL⟩⟩ := x
    obtain ⟨s, sb, sk, sl, sm⟩ := C
    obtain ⟨A1, c1, e1⟩ := hx.less.form
    obtain ⟨A2, c2, e2⟩ := hx.more.form
    obtain ⟨M, hM⟩ : ∃ M, M = (lessS s).length := ⟨_, rfl⟩
    dsimp only at e1 e2 hsh hky
    rw [← hM] at e1
    subst e1 e2
    dsimp only at b7 hx
    refine Code.wpIn_mono (Q := fun e a w' => (e = .normal ∧ ownB s = none ∧ Below W.heap.size W w') ∨ (e = .ret ∧ (ownB s).isSome = true ∧ Blk w' N4 29 (entC (ownB s)).toArray ∧ Blk w' N5 4 #[.bool true] ∧ Below N3 W w' ∧ KeepsOthers W w')) ?_ ?_
    · rintro e a w' (⟨rfl, hm, hB2⟩ | ⟨rfl, ho, h4, h5', hB2, hk2⟩)
      · refine ⟨(keeps_of_below hB2).from _, ⟨hB2.mono hWs, hB2.block Bs (Nat.lt_of_lt_of_le hBs hWs)⟩, fun x' hx' => ?_, hB1.trans (hB2.mono hWs)⟩
        rcases List.mem_append.1 hx' with h | h
        · exact hE x' h
        · obtain rfl := List.mem_singleton.1 h
          exact hm
      · have hfs : ((pre ++ [(x1, (⟨⟨s, sb, sk, .slice A1 M c1, .slice A2 (moreS s).length c2⟩, hCL⟩ : {c // c ∈ L}))]).map fun x => x.2.1.s).findSome? ownB = ownB s := by
          rw [List.map_append, List.findSome?_append, List.findSome?_eq_none_iff.2 (fun s' hs' => by obtain ⟨x', h1, rfl⟩ := List.mem_map.1 hs'; exact hE x' h1)]
          simp
        refine ⟨hk2.from _, ⟨⟨⟨rfl, by rw [hfs]; exact ho⟩, by rw [hfs]; exact h4⟩, h5'⟩, (hB.trans (hB1.mono hw2')).trans hB2⟩
    have y2 := b7.cell 2
    have hk1 : sk.data.toList = s.pre := hx.key
    rcases Nat.eq_zero_or_pos M with h0 | hpos
    · subst h0
      have hl := List.length_eq_zero_iff.1 hM.symm
      have kv := value_any _ sb s.t W hx.rad
      have y0 := b7.cell 0
      have y1 := b7.cell 1
      have HB7 := Lib.hid b7
      have HB3 := Lib.hid b3
      have HB4 := Lib.hid b4
      have HB5 := Lib.hid b5
      have HNW := Lib.hid (show N3 ≤ W.heap.size by omega)
      have h54 := Ne.symm h45
      unfold at0 at kv y0 HB7
      clear hSH hWK hAW b3 b4 b5 hR hB bB hBx hW1 b7 hx hsh hE hM
      cases hv : s.t.val with
      | none =>
        have HO := Lib.hid (ownB_none hl hv)
        rw [hv] at kv
        clear hv hk1 hky hl
        gi_wp2
        refine ⟨trivial, (CallsIn.inRound l (callsIn_wide.2 kv)).mono ?_⟩
        rintro e wA ⟨rfl, hBA⟩
        have y1 := (HB7.out.below hBA).cell 1
        have y3 := (HB3.out.below hBA).cell 0
        gi_wp2
        exact HO.out
      | some v =>
        rw [hv] at kv
        have hne : (sk = key) = (s.r = []) := by
          refine propext ⟨fun e => ?_, fun e => ?_⟩
          · subst e
            rw [hk1] at hky
            exact List.append_right_eq_self.1 hky
          · rw [e, List.append_nil, ← hk1] at hky
            exact bytes_ext hky
        by_cases hr0 : s.r = []
        · have HO := Lib.hid (ownB_end hl hr0)
          obtain rfl : sk = key := hne.mpr hr0
          clear hv hk1 hky hl hne hr0
          gi_wp2
          refine ⟨trivial, (CallsIn.inRound l (callsIn_wide.2 kv)).mono ?_⟩
          rintro e wA ⟨rfl, hBA⟩
          have y1 := (HB7.out.below hBA).cell 1
          have y3 := (HB3.out.below hBA).cell 0
          gi_wp2
          exact HO.out
        · have HO := Lib.hid (ownB_some hl hv hr0)
          have hsk : (sk.toList == key.toList) = false := by
            have : ¬ (sk = key) := fun e => hr0 (hne.mp e)
            rw [ByteArray.toList_eq, ByteArray.toList_eq]
            simp only [beq_eq_false_iff_ne, ne_eq]
            exact fun e => this (bytes_ext e)
          have HK := Lib.hid (strOf_self hk1)
          clear hv hk1 hky hl hne hr0
          gi_wp2
          refine ⟨trivial, (CallsIn.inRound l (callsIn_wide.2 kv)).mono ?_⟩
          rintro e wA ⟨rfl, hBA⟩
          clear kv y0
          have y1 := (HB7.out.below hBA).cell 1
          have y3 := (HB3.out.below hBA).cell 0
          have h4 := HB4.out.below hBA
          have h5 := HB5.out.below hBA
          have z0 := h4.cell 0
          have z1 := h4.cell 1
          have zf := h4.frozen 0
          have zf1 := h4.frozen 1
          have g5 := (h5.far (p := ⟨N4, 0, none⟩) h54 (.string sk)).far (p := ⟨N4, 1, none⟩) h54 (.string v)
          have z5 := g5.cell 0
          have zf5 := g5.frozen 0
          have HH := Lib.hid (⟨(h4.set2 (.string sk) (.string v)).far (p := ⟨N5, 0, none⟩) h45 (.bool true), g5.set_ 0 (.bool true),
            (((hBA.mono HNW.out).setCell (p := ⟨N4, 0, none⟩) h34 (.string sk)).setCell (p := ⟨N4, 1, none⟩) h34 (.string v)).setCell (p := ⟨N5, 0, none⟩) h35 (.bool true),
            (((keeps_of_below hBA).trans (KeepsOthers.setCell _ ⟨N4, 0, none⟩ (.string sk))).trans (KeepsOthers.setCell _ ⟨N4, 1, none⟩ (.string v))).trans (KeepsOthers.setCell _ ⟨N5, 0, none⟩ (.bool true))⟩ : _ ∧ _ ∧ _ ∧ _)
          clear h4 h5 g5 hBA
          gi_wp2
          refine ⟨by rw [HO.out]; rfl, ?_, HH.out.2.1, HH.out.2.2.1, HH.out.2.2.2⟩
          rw [HO.out]
          unfold entC
          dsimp only
          rw [HK.out]
          exact HH.out.1
    · obtain ⟨Q, rfl⟩ : ∃ Q, M = Q + 1 := ⟨M - 1, by omega⟩
      obtain ⟨g, lo, cc, kb, cs, e, bg, hcs, hRk⟩ := hx.less.at2 Q (by rw [← hM]; omega)
      rw [← hM] at e
      simp only [Value.slice.injEq] at e
      obtain ⟨rfl, -, rfl⟩ := e
      obtain ⟨hmem, hown, e0, he0⟩ := ownB_kid hx.can hM
      obtain ⟨hks, hkl⟩ := kid_shrt hx.can hmem hsh
      obtain ⟨lab, hlab, klab⟩ := label_any _ kb _ W hRk
      have hkey : (sk ++ lab).data.toList = s.pre ++ (rat (lessS s) Q).lab := by
        simp [hk1, hlab]
      have hksz : (sk ++ lab).size ≤ 1000 := by
        have h1 : (sk ++ lab).data.toList.length = (sk ++ lab).size := size_of _
        rw [← h1, hkey, List.length_append]
        exact hkl
      obtain ⟨o, ho⟩ : ∃ o, ownB s = some o := ⟨_, by rw [hown, he0]; rfl⟩
      have kf : ∀ W', Below W.heap.size W W' → Calls Try.prog 63 #[.pointer (some ⟨kb, 0, none⟩), .string (sk ++ lab)] W' fun e w' => e = .returned (.tuple #[.agg #[.string (strOf o.1), .string o.2], .bool true]) ∧ Below W'.heap.size W' w' := fun W' hB' => by
        have := nlast_any kb _ (sk ++ lab) W' (hRk.stay hB') (hx.can.kids _ hmem) hks hksz
        rw [hkey, ← hown, ho] at this
        exact this
      have hg4 := bg.ne b4 (by decide)
      have hg5 := bg.ne b5 (by decide)
      have y1 := b7.cell 1
      have yg := (bg.cell (lo + Q)).trans hcs
      have hadd : sk.size + lab.size ≤ 9223372036854775807 := by rw [ByteArray.size_append] at hksz; omega
      have hkl9 : s.t.kids.length ≤ 900 := by
        have hcn : Can s.t := hx.can
        have := kids_few hcn
        omega
      have hN9 : Q + 1 ≤ 900 := by
        rw [hM]
        exact Nat.le_trans (by unfold lessS; rw [List.length_take]; exact Nat.min_le_right _ _) hkl9
      obtain ⟨N, hN⟩ : ∃ N, N = Q + 1 := ⟨_, rfl⟩
      rw [← hN] at b7 y2
      have hip : (0 : Int) < (N : Int) := by omega
      have hiq : IntKind.i64.wrap ((N : Int) - 1) = (Q : Int) := by rw [IntWalk.i64_in _ (by omega)]; omega
      have hq0 : (0 : Int) ≤ (Q : Int) := by omega
      have hqn : (Q : Int) < (N : Int) := by omega
      have hqn' : Q < N := by omega
      clear hN
      have HO := Lib.hid ho
      have HBG := Lib.hid bg
      have HB7 := Lib.hid b7
      have HB4 := Lib.hid b4
      have HB5 := Lib.hid b5
      have HCS := Lib.hid hcs
      have HNW := Lib.hid (show N3 ≤ W.heap.size by omega)
      clear hSH hWK hAW b3 b4 b5 hR hB bB hBx hW1 b7 hx hsh hE hRk hmem hown he0 hks hkl hlab hkey hksz ho bg hcs hM hk1 hky hN9 hkl9
      unfold at0 at klab y2 y1 yg HB7 HCS
      have hdr : Below W.heap.size W W.drew := (Below.refl _ W).drew
      have hS0 : (fun w' : World => w'.cell? ⟨N7, 2, none⟩ = some (.slice (some ⟨g, lo, none⟩) N c1) ∧ w'.cell? ⟨N7, 1, none⟩ = some (.string sk) ∧ w'.cell? ⟨g, lo + Q, none⟩ = some (.pointer (some ⟨kb, 0, none⟩))) W.drew := ⟨y2, y1, yg⟩
      gi_wp2
      clear y2 y1 yg
      refine wpIn_region_held2 l _ (S := (fun w' : World => w'.cell? ⟨N7, 2, none⟩ = some (.slice (some ⟨g, lo, none⟩) N c1) ∧ w'.cell? ⟨N7, 1, none⟩ = some (.string sk) ∧ w'.cell? ⟨g, lo + Q, none⟩ = some (.pointer (some ⟨kb, 0, none⟩)))) (by kernel_rfl) (noDefer_spec (by kernel_rfl)) hS0 ?_
      intro hS
      refine wpAnyH_take (i := 0) (oi := { dst := some 22, op := Go.Op.fieldAddr 88 (Go.Operand.tmp 7) 2, type := 0, pos := "near.go:43", after := #[], guard := none }) (v := .pointer (some ⟨N7, 2, none⟩)) rfl (by kernel_rfl) (by kernel_rfl) (by kernel_rfl) (fun _ _ _ h => by cases h.1) (Or.inl ⟨by rfl, fun w hSw => ?_⟩) hS ?_
      · go_split_ands
        go_simp
      try simp only [Act.put, List.setIfInBounds_toArray, List.set_cons_zero, List.set_cons_succ]
      refine wpAnyH_take (i := 1) (oi := { dst := some 23, op := Go.Op.load 86 (Go.Operand.tmp 22), type := 86, pos := "near.go:43", after := #[{ on := 0, ground := Go.Ground.data }], guard := none }) (v := .slice (some ⟨g, lo, none⟩) N c1) rfl (by kernel_rfl) (by kernel_rfl) (by kernel_rfl) (fun _ _ _ h => by cases h.1) (Or.inl ⟨by rfl, fun w hSw => ?_⟩) hS ?_
      · go_split_ands
        go_simp
      try simp only [Act.put, List.setIfInBounds_toArray, List.set_cons_zero, List.set_cons_succ]
      refine wpAnyH_take (i := 2) (oi := { dst := some 24, op := Go.Op.move (Go.Operand.tmp 8), type := 3, pos := "near.go:43", after := #[], guard := none }) (v := .int .i64 N) rfl (by kernel_rfl) (by kernel_rfl) (by kernel_rfl) (fun _ _ _ h => by cases h.1) (Or.inl ⟨by rfl, fun w hSw => ?_⟩) hS ?_
      · go_split_ands
        go_simp
      try simp only [Act.put, List.setIfInBounds_toArray, List.set_cons_zero, List.set_cons_succ]
      refine wpAnyH_take (i := 3) (oi := { dst := some 25, op := Go.Op.binOp Go.BinOp.sub 3 (Go.Operand.tmp 24) (Go.Operand.const (Go.Value.int Go.IntKind.i64 1)) 3, type := 3, pos := "near.go:43", after := #[{ on := 2, ground := Go.Ground.data }], guard := none }) (v := .int .i64 Q) rfl (by kernel_rfl) (by kernel_rfl) (by kernel_rfl) (fun _ _ _ h => by cases h.1) (Or.inl ⟨by rfl, fun w hSw => ?_⟩) hS ?_
      · go_split_ands
        go_simp
      try simp only [Act.put, List.setIfInBounds_toArray, List.set_cons_zero, List.set_cons_succ]
      refine wpAnyH_take (i := 4) (oi := { dst := some 26, op := Go.Op.indexAddr 86 (Go.Operand.tmp 23) (Go.Operand.tmp 25), type := 0, pos := "near.go:43", after := #[{ on := 1, ground := Go.Ground.data }, { on := 3, ground := Go.Ground.data }], guard := none }) (v := .pointer (some ⟨g, lo + Q, none⟩)) rfl (by kernel_rfl) (by kernel_rfl) (by kernel_rfl) (fun _ _ _ h => by cases h.1) (Or.inl ⟨by rfl, fun w hSw => ?_⟩) hS ?_
      · go_split_ands
        go_simp
      try simp only [Act.put, List.setIfInBounds_toArray, List.set_cons_zero, List.set_cons_succ]
      refine wpAnyH_take (i := 5) (oi := { dst := some 27, op := Go.Op.load 24 (Go.Operand.tmp 26), type := 24, pos := "near.go:43", after := #[{ on := 4, ground := Go.Ground.data }], guard := none }) (v := .pointer (some ⟨kb, 0, none⟩)) rfl (by kernel_rfl) (by kernel_rfl) (by kernel_rfl) (fun _ _ _ h => by cases h.1) (Or.inl ⟨by rfl, fun w hSw => ?_⟩) hS ?_
      · go_split_ands
        go_simp
      try simp only [Act.put, List.setIfInBounds_toArray, List.set_cons_zero, List.set_cons_succ]
      refine wpAnyH_take (i := 6) (oi := { dst := some 28, op := Go.Op.fieldAddr 88 (Go.Operand.tmp 7) 1, type := 0, pos := "near.go:43", after := #[], guard := none }) (v := .pointer (some ⟨N7, 1, none⟩)) rfl (by kernel_rfl) (by kernel_rfl) (by kernel_rfl) (fun _ _ _ h => by cases h.1) (Or.inl ⟨by rfl, fun w hSw => ?_⟩) hS ?_
      · go_split_ands
        go_simp
      try simp only [Act.put, List.setIfInBounds_toArray, List.set_cons_zero, List.set_cons_succ]
      refine wpAnyH_take (i := 7) (oi := { dst := some 29, op := Go.Op.load 9 (Go.Operand.tmp 28), type := 9, pos := "near.go:43", after := #[{ on := 6, ground := Go.Ground.data }], guard := none }) (v := .string sk) rfl (by kernel_rfl) (by kernel_rfl) (by kernel_rfl) (fun _ _ _ h => by cases h.1) (Or.inl ⟨by rfl, fun w hSw => ?_⟩) hS ?_
      · go_split_ands
        go_simp
      try simp only [Act.put, List.setIfInBounds_toArray, List.set_cons_zero, List.set_cons_succ]
      refine wpAnyH_take (i := 8) (oi := { dst := some 30, op := Go.Op.fieldAddr 88 (Go.Operand.tmp 7) 2, type := 0, pos := "near.go:43", after := #[], guard := none }) (v := .pointer (some ⟨N7, 2, none⟩)) rfl (by kernel_rfl) (by kernel_rfl) (by kernel_rfl) (fun _ _ _ h => by cases h.1) (Or.inl ⟨by rfl, fun w hSw => ?_⟩) hS ?_
      · go_split_ands
        go_simp
      try simp only [Act.put, List.setIfInBounds_toArray, List.set_cons_zero, List.set_cons_succ]
      refine wpAnyH_take (i := 9) (oi := { dst := some 31, op := Go.Op.load 86 (Go.Operand.tmp 30), type := 86, pos := "near.go:43", after := #[{ on := 8, ground := Go.Ground.data }], guard := none }) (v := .slice (some ⟨g, lo, none⟩) N c1) rfl (by kernel_rfl) (by kernel_rfl) (by kernel_rfl) (fun _ _ _ h => by cases h.1) (Or.inl ⟨by rfl, fun w hSw => ?_⟩) hS ?_
      · go_split_ands
        go_simp
      try simp only [Act.put, List.setIfInBounds_toArray, List.set_cons_zero, List.set_cons_succ]
      refine wpAnyH_take (i := 10) (oi := { dst := some 32, op := Go.Op.move (Go.Operand.tmp 8), type := 3, pos := "near.go:43", after := #[], guard := none }) (v := .int .i64 N) rfl (by kernel_rfl) (by kernel_rfl) (by kernel_rfl) (fun _ _ _ h => by cases h.1) (Or.inl ⟨by rfl, fun w hSw => ?_⟩) hS ?_
      · go_split_ands
        go_simp
      try simp only [Act.put, List.setIfInBounds_toArray, List.set_cons_zero, List.set_cons_succ]
      refine wpAnyH_take (i := 11) (oi := { dst := some 33, op := Go.Op.binOp Go.BinOp.sub 3 (Go.Operand.tmp 32) (Go.Operand.const (Go.Value.int Go.IntKind.i64 1)) 3, type := 3, pos := "near.go:43", after := #[{ on := 10, ground := Go.Ground.data }], guard := none }) (v := .int .i64 Q) rfl (by kernel_rfl) (by kernel_rfl) (by kernel_rfl) (fun _ _ _ h => by cases h.1) (Or.inl ⟨by rfl, fun w hSw => ?_⟩) hS ?_
      · go_split_ands
        go_simp
      try simp only [Act.put, List.setIfInBounds_toArray, List.set_cons_zero, List.set_cons_succ]
      refine wpAnyH_take (i := 12) (oi := { dst := some 34, op := Go.Op.indexAddr 86 (Go.Operand.tmp 31) (Go.Operand.tmp 33), type := 0, pos := "near.go:43", after := #[{ on := 9, ground := Go.Ground.data }, { on := 11, ground := Go.Ground.data }], guard := none }) (v := .pointer (some ⟨g, lo + Q, none⟩)) rfl (by kernel_rfl) (by kernel_rfl) (by kernel_rfl) (fun _ _ _ h => by cases h.1) (Or.inl ⟨by rfl, fun w hSw => ?_⟩) hS ?_
      · go_split_ands
        go_simp
      try simp only [Act.put, List.setIfInBounds_toArray, List.set_cons_zero, List.set_cons_succ]
      refine wpAnyH_take (i := 13) (oi := { dst := some 35, op := Go.Op.load 24 (Go.Operand.tmp 34), type := 24, pos := "near.go:43", after := #[{ on := 12, ground := Go.Ground.data }], guard := none }) (v := .pointer (some ⟨kb, 0, none⟩)) rfl (by kernel_rfl) (by kernel_rfl) (by kernel_rfl) (fun _ _ _ h => by cases h.1) (Or.inl ⟨by rfl, fun w hSw => ?_⟩) hS ?_
      · go_split_ands
        go_simp
      try simp only [Act.put, List.setIfInBounds_toArray, List.set_cons_zero, List.set_cons_succ]
      refine wpAnyH_ready (rs := [14]) (by kernel_rfl) (by simp) ?_
      refine AllReadyH.cons (o := { dst := some 36, op := Go.Op.call { callee := Go.Callee.value (Go.Operand.func 67), args := #[Go.Operand.tmp 35], argTypes := #[24] }, type := 9, pos := "near.go:43", after := #[{ on := 13, ground := Go.Ground.data }], guard := none }) rfl (fun K hK => ?_) AllReadyH.nil
      go_simp
      refine (klab _ hdr).mono ?_
      rintro e wB ⟨rfl, rfl⟩
      go_wp2_with fail
      have hSn := hS
      refine hK.out _ _ hSn (fun _ => ?_)
      clear hK K hS
      try simp only [Act.put, List.setIfInBounds_toArray, List.set_cons_zero, List.set_cons_succ]
      have hS := hSn
      clear hSn
      refine wpAnyH_take (i := 15) (oi := { dst := some 37, op := Go.Op.binOp Go.BinOp.add 9 (Go.Operand.tmp 29) (Go.Operand.tmp 36) 9, type := 9, pos := "near.go:43", after := #[{ on := 7, ground := Go.Ground.data }, { on := 14, ground := Go.Ground.data }], guard := none }) (v := .string (sk ++ lab)) rfl (by kernel_rfl) (by kernel_rfl) (by kernel_rfl) (fun _ _ _ h => by cases h.1) (Or.inl ⟨by rfl, fun w hSw => ?_⟩) hS ?_
      · go_split_ands
        go_simp
      try simp only [Act.put, List.setIfInBounds_toArray, List.set_cons_zero, List.set_cons_succ]
      refine wpAnyH_ready (rs := [16]) (by kernel_rfl) (by simp) ?_
      refine AllReadyH.cons (o := { dst := some 38, op := Go.Op.call { callee := Go.Callee.value (Go.Operand.func 63), args := #[Go.Operand.tmp 27, Go.Operand.tmp 37], argTypes := #[24, 9] }, type := 31, pos := "near.go:43", after := #[{ on := 5, ground := Go.Ground.data }, { on := 15, ground := Go.Ground.data }, { on := 14, ground := Go.Ground.chain }], guard := none }) rfl (fun K hK => ?_) AllReadyH.nil
      go_simp
      refine (kf _ hdr).mono ?_
      rintro e wA ⟨rfl, hBA⟩
      go_wp2_with fail
      have hSn := keep3c hS hBA
      refine hK.out _ _ hSn (fun _ => ?_)
      clear hK K hS
      try simp only [Act.put, List.setIfInBounds_toArray, List.set_cons_zero, List.set_cons_succ]
      have hS := hSn
      clear hSn
      have hBA := hdr.trans (hBA.mono hdr.size)
      have HKP := Lib.hid (keeps_of_below hBA)
      have h4 := HB4.out.below hBA
      have h5 := HB5.out.below hBA
      have h7 := HB7.out.below hBA
      have hg := HBG.out.below hBA
      have z0 := h4.cell 0
      have z1 := h4.cell 1
      have zf := h4.frozen 0
      have zf1 := h4.frozen 1
      refine wpAnyH_take (i := 17) (oi := { dst := some 39, op := Go.Op.extract (Go.Operand.tmp 38) 0, type := 29, pos := "near.go:43", after := #[{ on := 16, ground := Go.Ground.data }], guard := none }) (v := .agg #[.string (strOf o.1), .string o.2]) rfl (by kernel_rfl) (by kernel_rfl) (by kernel_rfl) (fun _ _ _ h => by cases h.1) (Or.inl ⟨by rfl, fun w hSw => ?_⟩) hS ?_
      · go_split_ands
        go_simp
      try simp only [Act.put, List.setIfInBounds_toArray, List.set_cons_zero, List.set_cons_succ]
      refine wpAnyH_take (i := 18) (oi := { dst := some 40, op := Go.Op.extract (Go.Operand.tmp 38) 1, type := 4, pos := "near.go:43", after := #[{ on := 16, ground := Go.Ground.data }], guard := none }) (v := .bool true) rfl (by kernel_rfl) (by kernel_rfl) (by kernel_rfl) (fun _ _ _ h => by cases h.1) (Or.inl ⟨by rfl, fun w hSw => ?_⟩) hS ?_
      · go_split_ands
        go_simp
      try simp only [Act.put, List.setIfInBounds_toArray, List.set_cons_zero, List.set_cons_succ]
      refine wpAnyH_ready (rs := [19]) (by kernel_rfl) (by simp) ?_
      refine AllReadyH.cons (o := { dst := none, op := Go.Op.store 29 (Go.Operand.tmp 4) (Go.Operand.tmp 39), type := 0, pos := "near.go:43", after := #[{ on := 17, ground := Go.Ground.data }, { on := 16, ground := Go.Ground.chain }, { on := 0, ground := Go.Ground.phase }, { on := 1, ground := Go.Ground.phase }, { on := 2, ground := Go.Ground.phase }, { on := 3, ground := Go.Ground.phase }, { on := 4, ground := Go.Ground.phase }, { on := 5, ground := Go.Ground.phase }, { on := 6, ground := Go.Ground.phase }, { on := 7, ground := Go.Ground.phase }, { on := 8, ground := Go.Ground.phase }, { on := 9, ground := Go.Ground.phase }, { on := 10, ground := Go.Ground.phase }, { on := 11, ground := Go.Ground.phase }, { on := 12, ground := Go.Ground.phase }, { on := 13, ground := Go.Ground.phase }, { on := 14, ground := Go.Ground.phase }, { on := 15, ground := Go.Ground.phase }, { on := 16, ground := Go.Ground.phase }, { on := 17, ground := Go.Ground.phase }, { on := 18, ground := Go.Ground.phase }], guard := none }) rfl (fun K hK => ?_) AllReadyH.nil
      go_simp
      have h7 := (h7.far (p := ⟨N4, 0, none⟩) hN74 (.string (strOf o.1))).far (p := ⟨N4, 1, none⟩) hN74 (.string o.2)
      have hg := (hg.far (p := ⟨N4, 0, none⟩) hg4 (.string (strOf o.1))).far (p := ⟨N4, 1, none⟩) hg4 (.string o.2)
      have h5 := (h5.far (p := ⟨N4, 0, none⟩) (Ne.symm h45) (.string (strOf o.1))).far (p := ⟨N4, 1, none⟩) (Ne.symm h45) (.string o.2)
      have h4 := h4.set2 (.string (strOf o.1)) (.string o.2)
      have hBA := ((hBA.mono HNW.out).setCell (p := ⟨N4, 0, none⟩) h34 (.string (strOf o.1))).setCell (p := ⟨N4, 1, none⟩) h34 (.string o.2)
      have hKP := (HKP.out.trans (KeepsOthers.setCell _ ⟨N4, 0, none⟩ (.string (strOf o.1)))).trans (KeepsOthers.setCell _ ⟨N4, 1, none⟩ (.string o.2))
      have hSn : (fun w' : World => w'.cell? ⟨N7, 2, none⟩ = some (.slice (some ⟨g, lo, none⟩) N c1) ∧ w'.cell? ⟨N7, 1, none⟩ = some (.string sk) ∧ w'.cell? ⟨g, lo + Q, none⟩ = some (.pointer (some ⟨kb, 0, none⟩))) _ := ⟨h7.cell 2, h7.cell 1, (hg.cell (lo + Q)).trans HCS.out⟩
      refine hK.out _ _ hSn (fun _ => ?_)
      clear hK K hS z0 z1 zf zf1
      generalize (wA.setCell ⟨N4, 0, none⟩ (.string (strOf o.1))).setCell ⟨N4, 1, none⟩ (.string o.2) = wC at *
      have hS := hSn
      clear hSn
      have z0 := h5.cell 0
      have zf := h5.frozen 0
      try simp only [Act.put, List.setIfInBounds_toArray, List.set_cons_zero, List.set_cons_succ]
      refine wpAnyH_ready (rs := [20]) (by kernel_rfl) (by simp) ?_
      refine AllReadyH.cons (o := { dst := none, op := Go.Op.store 4 (Go.Operand.tmp 5) (Go.Operand.tmp 40), type := 0, pos := "near.go:43", after := #[{ on := 18, ground := Go.Ground.data }, { on := 19, ground := Go.Ground.chain }, { on := 0, ground := Go.Ground.phase }, { on := 1, ground := Go.Ground.phase }, { on := 2, ground := Go.Ground.phase }, { on := 3, ground := Go.Ground.phase }, { on := 4, ground := Go.Ground.phase }, { on := 5, ground := Go.Ground.phase }, { on := 6, ground := Go.Ground.phase }, { on := 7, ground := Go.Ground.phase }, { on := 8, ground := Go.Ground.phase }, { on := 9, ground := Go.Ground.phase }, { on := 10, ground := Go.Ground.phase }, { on := 11, ground := Go.Ground.phase }, { on := 12, ground := Go.Ground.phase }, { on := 13, ground := Go.Ground.phase }, { on := 14, ground := Go.Ground.phase }, { on := 15, ground := Go.Ground.phase }, { on := 16, ground := Go.Ground.phase }, { on := 17, ground := Go.Ground.phase }, { on := 18, ground := Go.Ground.phase }, { on := 19, ground := Go.Ground.phase }], guard := none }) rfl (fun K hK => ?_) AllReadyH.nil
      go_simp
      have h7 := h7.far (p := ⟨N5, 0, none⟩) hN75 (.bool true)
      have hg := hg.far (p := ⟨N5, 0, none⟩) hg5 (.bool true)
      have h4 := h4.far (p := ⟨N5, 0, none⟩) h45 (.bool true)
      have h5 := h5.set_ 0 (.bool true)
      have hBA := hBA.setCell (p := ⟨N5, 0, none⟩) h35 (.bool true)
      have hKP := hKP.trans (KeepsOthers.setCell _ ⟨N5, 0, none⟩ (.bool true))
      have hSn : (fun w' : World => w'.cell? ⟨N7, 2, none⟩ = some (.slice (some ⟨g, lo, none⟩) N c1) ∧ w'.cell? ⟨N7, 1, none⟩ = some (.string sk) ∧ w'.cell? ⟨g, lo + Q, none⟩ = some (.pointer (some ⟨kb, 0, none⟩))) _ := ⟨h7.cell 2, h7.cell 1, (hg.cell (lo + Q)).trans HCS.out⟩
      refine hK.out _ _ hSn (fun _ => ?_)
      clear hK K hS z0 zf
      generalize wC.setCell ⟨N5, 0, none⟩ (.bool true) = wE at *
      have hS := hSn
      clear hSn
      try simp only [Act.put, List.setIfInBounds_toArray, List.set_cons_zero, List.set_cons_succ]
      refine wpAnyH_done (by kernel_rfl) ?_ _
      refine ⟨rfl, ?_⟩
      clear hdr hS0 hS
      have HH := Lib.hid (⟨h4, h5, hBA, hKP⟩ : Blk wE N4 29 _ ∧ Blk wE N5 4 _ ∧ Below N3 W wE ∧ KeepsOthers W wE)
      clear h4 h5 hBA hKP h7 hg kf klab
      gi_wp2
      exact ⟨by rw [HO.out]; rfl, by rw [HO.out]; exact HH.out.1, HH.out.2.1, HH.out.2.2.1, HH.out.2.2.2⟩
  case done =>
    rintro D ys W hD hys ⟨hE, hB1⟩ hK
    obtain rfl : goal = none := by
      rw [← hAW, ← List.map_reverse, ← hys, List.map_map]
      exact List.findSome?_eq_none_iff.2 (fun s' hs' => by obtain ⟨x', h1, rfl⟩ := List.mem_map.1 hs'; exact hE x' h1)
    have hw2 := hB.size
    rw [← HN4.out] at hw2
    have b4 := b4.below hB1
    have b5 := b5.below hB1
    have z0 := b4.cell 0
    have zf := b4.frozen 0
    have zf1 := b4.frozen 1
    have z1 := b4.cell 1
    have z5 := ((b5.far (p := ⟨N4, 0, none⟩) (Ne.symm h45) (.string ⟨#[]⟩)).far (p := ⟨N4, 1, none⟩) (Ne.symm h45) (.string ⟨#[]⟩)).cell 0
    have zf5 := ((b5.far (p := ⟨N4, 0, none⟩) (Ne.symm h45) (.string ⟨#[]⟩)).far (p := ⟨N4, 1, none⟩) (Ne.symm h45) (.string ⟨#[]⟩)).frozen 0
    have F4 := (b4.set2 (.string ⟨#[]⟩) (.string ⟨#[]⟩)).far (p := ⟨N5, 0, none⟩) h45 (.bool false)
    have F5 := ((b5.far (p := ⟨N4, 0, none⟩) (Ne.symm h45) (.string ⟨#[]⟩)).far (p := ⟨N4, 1, none⟩) (Ne.symm h45) (.string ⟨#[]⟩)).set_ 0 (.bool false)
    have hK' := (((KeepsOthers.setCell W ⟨N4, 0, none⟩ (.string ⟨#[]⟩)).trans (KeepsOthers.setCell _ ⟨N4, 1, none⟩ (.string ⟨#[]⟩))).trans (KeepsOthers.setCell _ ⟨N5, 0, none⟩ (.bool false))).same D _ hK rfl
    have hB2 := (((hB.trans (hB1.mono hw2)).setCell (p := ⟨N4, 0, none⟩) h34 (.string ⟨#[]⟩)).setCell (p := ⟨N4, 1, none⟩) h34 (.string ⟨#[]⟩)).setCell (p := ⟨N5, 0, none⟩) h35 (.bool false)
    have D4 := F4.own (grownBy_putObj' _ D (.deferred none)) (fun r e => by cases e; exact ⟨_, hK', rfl⟩)
    have D5 := F5.own (grownBy_putObj' _ D (.deferred none)) (fun r e => by cases e; exact ⟨_, hK', rfl⟩)
    have hB3 := hB2.trans (belowK_b (w := w) (by rw [HN4.out]; exact Nat.le_refl _) _ D _ (.deferred none) (by rw [HN4.out] at hw2; exact Nat.le_trans hw2 hD) hK' rfl rfl)
    have HH := Lib.hid (And.intro D4 (And.intro D5 (And.intro hK' hB3)))
    have f10 : ((W.setCell ⟨N4, 0, none⟩ (.string ⟨#[]⟩)).frozen? ⟨N4, 1, none⟩) = false := (b4.set_ 0 (.string ⟨#[]⟩)).frozen 1
    clear hys hE hB1 hK hWK b3 b4 b5 F4 F5 hK' hB2 D4 D5 hB3 hB hR HL hAW hSH bB hBx hBs hD
    gi_wp2
    refine ⟨by simp, .inl ⟨_, _, rfl, run_takeDeferred HH.out.2.2.1, ?_⟩⟩
    refine ⟨_, ret_pair2 rfl _ _ N4 N5 (entC none) false rfl rfl HH.out.1 rfl HH.out.2.1, rfl, HH.out.2.2.2.mono (Nat.le_of_eq HN4.out.symm)⟩
  case stop =>
    rintro D c' pre W hD hpre ⟨⟨⟨⟨rfl, ho⟩, h4⟩, h5'⟩, hB1⟩ hK
    have hgl : (pre.map fun x => x.2.1.s).findSome? ownB = goal := by
      obtain ⟨rest, hrest⟩ := hpre
      symm
      rw [← hAW, ← List.map_reverse, ← hrest, List.map_append, List.findSome?_append, List.map_map]
      obtain ⟨o, ho'⟩ := Option.isSome_iff_exists.1 ho
      rw [show List.map ((fun x : StC => x.s) ∘ fun x : Nat × {c // c ∈ L} => x.2.1) pre = pre.map fun x => x.2.1.s from rfl, ho']
      rfl
    rw [hgl] at ho h4
    have hw2 := hB.size
    rw [← HN4.out] at hw2
    have D4 := h4.own (grownBy_putObj' _ D (.deferred none)) (fun r e => by cases e; exact ⟨_, hK, rfl⟩)
    have D5 := h5'.own (grownBy_putObj' _ D (.deferred none)) (fun r e => by cases e; exact ⟨_, hK, rfl⟩)
    have hB3 := hB1.trans (belowK_b (w := w) (by rw [HN4.out]; exact Nat.le_refl _) _ D _ (.deferred none) (by rw [HN4.out] at hw2; exact Nat.le_trans hw2 hD) hK rfl rfl)
    have HH := Lib.hid (And.intro D4 (And.intro D5 (And.intro hK hB3)))
    have HO := Lib.hid ho
    clear hgl hpre ho h4 h5' hB1 hK D4 D5 hB3 hB hR HL hAW hSH bB hBx hBs hD hWK b3 b4 b5
    gi_wp2
    refine ⟨by simp, .inl ⟨_, _, rfl, run_takeDeferred HH.out.2.2.1, ?_⟩⟩
    refine ⟨_, ret_pair2 rfl _ _ N4 N5 (entC goal) true rfl rfl HH.out.1 (by cases goal <;> rfl) HH.out.2.1, congrArg Ending.returned (by rw [entV_eq, HO.out]), HH.out.2.2.2.mono (Nat.le_of_eq HN4.out.symm)⟩
/-- Below of a tree -/
theorem below_any (b : Nat) (t : RX) (key : ByteArray) (w : World) (h : RadT w b t) (hc : Can t) (hs : Shrt 1000 t) (hk : key.size ≤ 1000) :
    Calls Try.prog 31 #[at0 b, .string key] w fun e w' => e = .returned (entV (((body t).filter (ltE key.data.toList)).getLast?)) ∧ Below w.heap.size w w' := by
  refine callsIn_wide.1 (below_in (at0 b) key _ w fun W hB => (way_any b t key W (h.stay hB) hc hs hk).mono ?_)
  rintro e w' ⟨v, L, rfl, hR, hL, hW, hB1⟩
  refine ⟨v, L, rfl, hR, hL, ⟨?_, way_shrt hW hc (fun e he => by have := hs e he; simpa using this), fun s hs' => by rw [way_key hW s hs', List.nil_append], by rw [below_way hW hc, preE_nil]⟩, hB1⟩
  have := way_len hW hc
  rw [List.length_map] at this
  have h3 : key.data.toList.length = key.size := size_of key
  omega
/-- .. of the tree that isn't there -/
theorem below_nil (key : ByteArray) (w : World) : Calls Try.prog 31 #[.pointer none, .string key] w fun e w' => e = .returned (entV none) ∧ Below w.heap.size w w' := by
  refine callsIn_wide.1 (below_in (.pointer none) key none w fun W hB => (way_nil key W).mono ?_)
  rintro e w' ⟨rfl, hB1⟩
  exact ⟨.slice none 0 0, [], rfl, ⟨rfl, .inl ⟨rfl, rfl⟩⟩, by simp, ⟨by simp, by simp, by simp, by simp⟩, hB1⟩
end Go.Proofs.Ytimhdegdmdilaaa
/- The questions of near as questions about a list of pairs. -/
namespace Go.Proofs.Ytimhdegdmdilaaa
open Go.RowKit Go.Lib
set_option linter.unusedVariables false
set_option linter.unnecessarySimpa false
set_option linter.unusedSimpArgs false
set_option linter.unnecessarySimpa false
set_option maxRecDepth 100000
/-- a pair as the program returns it -/
def entP : Option Pr → Value
  | some p => .tuple #[.agg #[.string p.1, .string p.2], .bool true]
  | none => .tuple #[.agg #[.string ⟨#[]⟩, .string ⟨#[]⟩], .bool false]
theorem entV_entP (o : Option Ent) : entV o = entP (o.map toPr) := by cases o <;> rfl
def ltP (k : ByteArray) (p : Pr) : Bool := decide (compareBytes p.1.data.toList k.data.toList < 0)
def gtP (k : ByteArray) (p : Pr) : Bool := decide (0 < compareBytes p.1.data.toList k.data.toList)
def pfP (k : ByteArray) (p : Pr) : Bool := decide (p.1.data.toList <+: k.data.toList)
def lastLt (X : List Pr) (k : ByteArray) : Option Pr := (X.filter (ltP k)).getLast?
def firstGt (X : List Pr) (k : ByteArray) : Option Pr := (X.filter (gtP k)).head?
def lastPf (X : List Pr) (k : ByteArray) : Option Pr := (X.filter (pfP k)).getLast?
def floorL (X : List Pr) (k : ByteArray) : Option Pr := match getR X k with | some v => some (k, v) | none => lastLt X k
def ceilL (X : List Pr) (k : ByteArray) : Option Pr := match getR X k with | some v => some (k, v) | none => firstGt X k
theorem filt_prs {t : RX} {f : Ent → Bool} {g : Pr → Bool} (h : ∀ e, g (toPr e) = f e) : (prs t).filter g = ((body t).filter f).map toPr := by
  unfold prs
  rw [List.filter_map]
  congr 1
  exact List.filter_congr fun x _ => h x
theorem ltP_to (k : ByteArray) (e : Ent) : ltP k (toPr e) = ltE k.data.toList e := decide_eq_decide.2 (by simp [toPr])
theorem gtP_to (k : ByteArray) (e : Ent) : gtP k (toPr e) = gtE k.data.toList e := decide_eq_decide.2 (by simp [toPr])
theorem pfP_to (k : ByteArray) (e : Ent) : pfP k (toPr e) = pfE k.data.toList e := decide_eq_decide.2 (by simp [toPr])
section
variable {w : World} {b : Nat} {X : List Pr}
theorem below_list (h : PW w b X) (k : ByteArray) (hk : k.size ≤ 1000) : Calls Try.prog 31 #[at0 b, .string k] w fun e w' => e = .returned (entP (lastLt X k)) ∧ Below w.heap.size w w' := by
  obtain ⟨t, h1, rfl, -⟩ := h
  have := below_any b t k w h1.rad h1.can (h1.shr.more (by omega)) hk
  rw [entV_entP, ← List.getLast?_map, ← filt_prs (ltP_to k)] at this
  exact this
theorem above_list (h : PW w b X) (k : ByteArray) (hk : k.size ≤ 1000) : Calls Try.prog 30 #[at0 b, .string k] w fun e w' => e = .returned (entP (firstGt X k)) ∧ Below w.heap.size w w' := by
  obtain ⟨t, h1, rfl, -⟩ := h
  have := above_any b t k w h1.rad h1.can (h1.shr.more (by omega)) hk
  rw [entV_entP, ← List.head?_map, ← filt_prs (gtP_to k)] at this
  exact this
theorem longest_list (h : PW w b X) (k : ByteArray) (hk : k.size ≤ 1000) : Calls Try.prog 22 #[at0 b, .string k] w fun e w' => e = .returned (entP (lastPf X k)) ∧ Below w.heap.size w w' := by
  obtain ⟨t, h1, rfl, -⟩ := h
  have := longest_any b t k w h1.rad h1.can (h1.shr.more (by omega)) hk
  rw [entV_entP, ← List.getLast?_map, ← filt_prs (pfP_to k)] at this
  exact this
theorem first_list (h : PW w b X) : Calls Try.prog 62 #[at0 b, .string ⟨#[]⟩] w fun e w' => e = .returned (entP X.head?) ∧ Below w.heap.size w w' := by
  obtain ⟨t, h1, rfl, -⟩ := h
  have := nfirst_any b t ⟨#[]⟩ w h1.rad h1.can (h1.shr.more (by omega)) (by decide)
  rw [show (ByteArray.mk #[]).data.toList = [] from rfl, preE_nil, entV_entP, ← List.head?_map] at this
  exact this
theorem last_list (h : PW w b X) : Calls Try.prog 63 #[at0 b, .string ⟨#[]⟩] w fun e w' => e = .returned (entP X.getLast?) ∧ Below w.heap.size w w' := by
  obtain ⟨t, h1, rfl, -⟩ := h
  have := nlast_any b t ⟨#[]⟩ w h1.rad h1.can (h1.shr.more (by omega)) (by decide)
  rw [show (ByteArray.mk #[]).data.toList = [] from rfl, preE_nil, entV_entP, ← List.getLast?_map] at this
  exact this
def entL : Option Pr → List Value
  | some p => [.string p.1, .string p.2]
  | none => [.string ⟨#[]⟩, .string ⟨#[]⟩]
theorem entP_eq (o : Option Pr) : entP o = .tuple #[.agg (entL o).toArray, .bool o.isSome] := by cases o <;> rfl
/-- the same with the box in another place -/
theorem ret_pair2t {fn : Func} (h : fn.results = #[.cell 2 29, .tmp 3]) (tmps : Array Value) (w : World) (g : Nat) (cs : Array Value) (hp : tmps.getD 2 undef = .pointer (some ⟨g, 0, none⟩)) (hg : w.heap[g]? = some (.cells cs 29 (0, 0))) (hi : cs.size = 2) :
    (results fn tmps).run Try.prog w = .ok (.tuple #[.agg cs, tmps.getD 3 undef]) w := by
  have h29 : (Try.prog.info? 29).map (·.size) = some cs.size := by rw [hi]; kernel_rfl
  have hl := run_loadVar_row (P := Try.prog) w g 29 29 cs (0, 0) _ hg Try.underlying29 rfl h29
  rw [results_cell_tmp h, hp]
  simp [asAddr, Result.andThen, hl]
set_option maxHeartbeats 1000000 in
theorem floor_list (h : PW w b X) (k : ByteArray) (hk : k.size ≤ 1000) : Calls Try.prog 32 #[at0 b, .string k] w fun e w' => e = .returned (entP (floorL X k)) ∧ Below w.heap.size w w' := by
  have hB0 := (Below.refl _ w).alloc (Nat.le_refl _) (.cells #[.string ⟨#[]⟩, .string ⟨#[]⟩] 29)
  have bR := Blk.new w 29 #[.string ⟨#[]⟩, .string ⟨#[]⟩]
  have h := h.below hB0
  have kg := get_list h k hk
  have HF := Lib.hid (show floorL X k = match getR X k with | some v => some (k, v) | none => lastLt X k from rfl)
  generalize floorL X k = goal at *
  unfold at0 at kg ⊢
  go_enter Try.func32, Try.ntmps32
  go_wp2_with fail
  generalize w.alloc (.cells #[.string ⟨#[]⟩, .string ⟨#[]⟩] 29) = W0 at *
  obtain ⟨N, hN⟩ : ∃ N, N = w.heap.size := ⟨_, rfl⟩
  have hNw : w.heap.size ≤ N := by omega
  rw [← hN] at bR ⊢
  refine kg.mono ?_
  rintro e W1 ⟨rfl, hB1⟩
  have h := h.below hB1
  have bR := bR.below hB1
  have hB := hB0.trans (hB1.mono hB0.size)
  clear kg hB0 hB1 hN
  cases hg : getR X k with
  | some v =>
    rw [hg] at HF
    have z0 := bR.cell 0
    have z1 := bR.cell 1
    have zf := bR.frozen 0
    have zf1 := bR.frozen 1
    have HH := Lib.hid (And.intro (bR.set2 (.string k) (.string v)) ((hB.setCell (p := ⟨N, 0, none⟩) hNw (.string k)).setCell (p := ⟨N, 1, none⟩) hNw (.string v)))
    clear hg h hB bR
    simp only [Option.getD_some, Option.isSome_some]
    go_wp2_with fail
    refine bodyPost_ret (ret_pair rfl _ _ N _ rfl HH.out.1 rfl) rfl ?_
    rw [HF.out]
    exact ⟨rfl, HH.out.2⟩
  | none =>
    rw [hg] at HF
    have kb := below_list h k hk
    unfold at0 at kb
    rw [entP_eq] at kb
    have HF' := Lib.hid (show goal = lastLt X k from HF.out)
    obtain ⟨v0, v1, hv⟩ : ∃ v0 v1, entL (lastLt X k) = [v0, v1] ∧ (∃ s, v0 = .string s) ∧ ∃ s, v1 = .string s := by
      cases lastLt X k with
      | none => exact ⟨_, _, rfl, ⟨_, rfl⟩, ⟨_, rfl⟩⟩
      | some p => exact ⟨_, _, rfl, ⟨_, rfl⟩, ⟨_, rfl⟩⟩
    obtain ⟨hv, ⟨s0, rfl⟩, ⟨s1, rfl⟩⟩ := hv
    have HV := Lib.hid hv
    rw [hv] at kb
    clear HF hg h hv
    simp only [Option.getD_none, Option.isSome_none]
    go_wp2_with fail
    refine kb.mono ?_
    rintro e W2 ⟨rfl, hB2⟩
    have bR := bR.below hB2
    have hB := hB.trans (hB2.mono hB.size)
    have z0 := bR.cell 0
    have z1 := bR.cell 1
    have zf := bR.frozen 0
    have zf1 := bR.frozen 1
    have HH := Lib.hid (And.intro (bR.set2 (.string s0) (.string s1)) ((hB.setCell (p := ⟨N, 0, none⟩) hNw (.string s0)).setCell (p := ⟨N, 1, none⟩) hNw (.string s1)))
    clear hB bR kb hB2
    go_wp2_with fail
    refine bodyPost_ret (ret_pair rfl _ _ N _ rfl HH.out.1 rfl) rfl ?_
    rw [HF'.out, entP_eq, HV.out]
    exact ⟨rfl, HH.out.2⟩
set_option maxHeartbeats 1000000 in
theorem ceil_list (h : PW w b X) (k : ByteArray) (hk : k.size ≤ 1000) : Calls Try.prog 33 #[at0 b, .string k] w fun e w' => e = .returned (entP (ceilL X k)) ∧ Below w.heap.size w w' := by
  have hB0 := (Below.refl _ w).alloc (Nat.le_refl _) (.cells #[.string ⟨#[]⟩, .string ⟨#[]⟩] 29)
  have bR := Blk.new w 29 #[.string ⟨#[]⟩, .string ⟨#[]⟩]
  have h := h.below hB0
  have kg := get_list h k hk
  have HF := Lib.hid (show ceilL X k = match getR X k with | some v => some (k, v) | none => firstGt X k from rfl)
  generalize ceilL X k = goal at *
  unfold at0 at kg ⊢
  go_enter Try.func33, Try.ntmps33
  go_wp2_with fail
  generalize w.alloc (.cells #[.string ⟨#[]⟩, .string ⟨#[]⟩] 29) = W0 at *
  obtain ⟨N, hN⟩ : ∃ N, N = w.heap.size := ⟨_, rfl⟩
  have hNw : w.heap.size ≤ N := by omega
  rw [← hN] at bR ⊢
  refine kg.mono ?_
  rintro e W1 ⟨rfl, hB1⟩
  have h := h.below hB1
  have bR := bR.below hB1
  have hB := hB0.trans (hB1.mono hB0.size)
  clear kg hB0 hB1 hN
  cases hg : getR X k with
  | some v =>
    rw [hg] at HF
    have z0 := bR.cell 0
    have z1 := bR.cell 1
    have zf := bR.frozen 0
    have zf1 := bR.frozen 1
    have HH := Lib.hid (And.intro (bR.set2 (.string k) (.string v)) ((hB.setCell (p := ⟨N, 0, none⟩) hNw (.string k)).setCell (p := ⟨N, 1, none⟩) hNw (.string v)))
    clear hg h hB bR
    simp only [Option.getD_some, Option.isSome_some]
    go_wp2_with fail
    refine bodyPost_ret (ret_pair rfl _ _ N _ rfl HH.out.1 rfl) rfl ?_
    rw [HF.out]
    exact ⟨rfl, HH.out.2⟩
  | none =>
    rw [hg] at HF
    have kb := above_list h k hk
    unfold at0 at kb
    rw [entP_eq] at kb
    have HF' := Lib.hid (show goal = firstGt X k from HF.out)
    obtain ⟨v0, v1, hv⟩ : ∃ v0 v1, entL (firstGt X k) = [v0, v1] ∧ (∃ s, v0 = .string s) ∧ ∃ s, v1 = .string s := by
      cases firstGt X k with
      | none => exact ⟨_, _, rfl, ⟨_, rfl⟩, ⟨_, rfl⟩⟩
      | some p => exact ⟨_, _, rfl, ⟨_, rfl⟩, ⟨_, rfl⟩⟩
    obtain ⟨hv, ⟨s0, rfl⟩, ⟨s1, rfl⟩⟩ := hv
    have HV := Lib.hid hv
    rw [hv] at kb
    clear HF hg h hv
    simp only [Option.getD_none, Option.isSome_none]
    go_wp2_with fail
    refine kb.mono ?_
    rintro e W2 ⟨rfl, hB2⟩
    have bR := bR.below hB2
    have hB := hB.trans (hB2.mono hB.size)
    have z0 := bR.cell 0
    have z1 := bR.cell 1
    have zf := bR.frozen 0
    have zf1 := bR.frozen 1
    have HH := Lib.hid (And.intro (bR.set2 (.string s0) (.string s1)) ((hB.setCell (p := ⟨N, 0, none⟩) hNw (.string s0)).setCell (p := ⟨N, 1, none⟩) hNw (.string s1)))
    clear hB bR kb hB2
    go_wp2_with fail
    refine bodyPost_ret (ret_pair rfl _ _ N _ rfl HH.out.1 rfl) rfl ?_
    rw [HF'.out, entP_eq, HV.out]
    exact ⟨rfl, HH.out.2⟩
set_option maxHeartbeats 1000000 in
theorem min_list (h : PW w b X) : Calls Try.prog 26 #[at0 b] w fun e w' => e = .returned (entP X.head?) ∧ Below w.heap.size w w' := by
  have hB := (Below.refl _ w).alloc (Nat.le_refl _) (.cells #[.string ⟨#[]⟩, .string ⟨#[]⟩] 29)
  have bR := Blk.new w 29 #[.string ⟨#[]⟩, .string ⟨#[]⟩]
  have h := h.below hB
  have kb := first_list h
  unfold at0 at kb ⊢
  rw [entP_eq] at kb
  generalize X.head? = goal at *
  obtain ⟨v0, v1, hv⟩ : ∃ v0 v1, entL goal = [v0, v1] ∧ (∃ s, v0 = .string s) ∧ ∃ s, v1 = .string s := by
    cases goal with
    | none => exact ⟨_, _, rfl, ⟨_, rfl⟩, ⟨_, rfl⟩⟩
    | some p => exact ⟨_, _, rfl, ⟨_, rfl⟩, ⟨_, rfl⟩⟩
  obtain ⟨hv, ⟨s0, rfl⟩, ⟨s1, rfl⟩⟩ := hv
  have HV := Lib.hid hv
  rw [hv] at kb
  clear hv h
  go_enter Try.func26, Try.ntmps26
  go_wp2_with fail
  generalize w.alloc (.cells #[.string ⟨#[]⟩, .string ⟨#[]⟩] 29) = W0 at *
  obtain ⟨N, hN⟩ : ∃ N, N = w.heap.size := ⟨_, rfl⟩
  have hNw : w.heap.size ≤ N := by omega
  rw [← hN] at bR ⊢
  clear hN
  refine kb.mono ?_
  rintro e W2 ⟨rfl, hB2⟩
  have bR := bR.below hB2
  have hB := hB.trans (hB2.mono hB.size)
  have z0 := bR.cell 0
  have z1 := bR.cell 1
  have zf := bR.frozen 0
  have zf1 := bR.frozen 1
  have HH := Lib.hid (And.intro (bR.set2 (.string s0) (.string s1)) ((hB.setCell (p := ⟨N, 0, none⟩) hNw (.string s0)).setCell (p := ⟨N, 1, none⟩) hNw (.string s1)))
  clear hB bR kb hB2
  go_wp2_with fail
  refine bodyPost_ret (ret_pair2t rfl _ _ N _ rfl HH.out.1 rfl) rfl ?_
  rw [entP_eq, HV.out]
  exact ⟨rfl, HH.out.2⟩
set_option maxHeartbeats 1000000 in
theorem max_list (h : PW w b X) : Calls Try.prog 27 #[at0 b] w fun e w' => e = .returned (entP X.getLast?) ∧ Below w.heap.size w w' := by
  have hB := (Below.refl _ w).alloc (Nat.le_refl _) (.cells #[.string ⟨#[]⟩, .string ⟨#[]⟩] 29)
  have bR := Blk.new w 29 #[.string ⟨#[]⟩, .string ⟨#[]⟩]
  have h := h.below hB
  have kb := last_list h
  unfold at0 at kb ⊢
  rw [entP_eq] at kb
  generalize X.getLast? = goal at *
  obtain ⟨v0, v1, hv⟩ : ∃ v0 v1, entL goal = [v0, v1] ∧ (∃ s, v0 = .string s) ∧ ∃ s, v1 = .string s := by
    cases goal with
    | none => exact ⟨_, _, rfl, ⟨_, rfl⟩, ⟨_, rfl⟩⟩
    | some p => exact ⟨_, _, rfl, ⟨_, rfl⟩, ⟨_, rfl⟩⟩
  obtain ⟨hv, ⟨s0, rfl⟩, ⟨s1, rfl⟩⟩ := hv
  have HV := Lib.hid hv
  rw [hv] at kb
  clear hv h
  go_enter Try.func27, Try.ntmps27
  go_wp2_with fail
  generalize w.alloc (.cells #[.string ⟨#[]⟩, .string ⟨#[]⟩] 29) = W0 at *
  obtain ⟨N, hN⟩ : ∃ N, N = w.heap.size := ⟨_, rfl⟩
  have hNw : w.heap.size ≤ N := by omega
  rw [← hN] at bR ⊢
  clear hN
  refine kb.mono ?_
  rintro e W2 ⟨rfl, hB2⟩
  have bR := bR.below hB2
  have hB := hB.trans (hB2.mono hB.size)
  have z0 := bR.cell 0
  have z1 := bR.cell 1
  have zf := bR.frozen 0
  have zf1 := bR.frozen 1
  have HH := Lib.hid (And.intro (bR.set2 (.string s0) (.string s1)) ((hB.setCell (p := ⟨N, 0, none⟩) hNw (.string s0)).setCell (p := ⟨N, 1, none⟩) hNw (.string s1)))
  clear hB bR kb hB2
  go_wp2_with fail
  refine bodyPost_ret (ret_pair2t rfl _ _ N _ rfl HH.out.1 rfl) rfl ?_
  rw [entP_eq, HV.out]
  exact ⟨rfl, HH.out.2⟩
end
end Go.Proofs.Ytimhdegdmdilaaa
