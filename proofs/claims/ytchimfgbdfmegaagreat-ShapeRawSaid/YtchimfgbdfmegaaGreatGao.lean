/- The reference's of: the trie of pairs, from nothing. -/
import Derived.Test.YtchimfgbdfmegaaGreatGan
namespace Go.Proofs.YtchimfgbdfmegaaGreat
open Go.RowKit Go.Lib
set_option linter.unusedVariables false
set_option maxRecDepth 100000
set_option linter.unusedSimpArgs false
set_option maxRecDepth 100000
attribute [local irreducible] cnt
/-- a node that is being made: the chunks below c are done -/
structure OfR (H : ByteArray → Nat) (N : Nat → Prop) (n l : Nat) (xs : List Pr) (T c : Nat) (f : Nat → Value) (wr : World) : Prop where
  rb : RB wr T f
  f0 : f 0 = .bool false
  done : ∀ d, d < c → SlotR (fun k qs => TrieR H (fun x => N x ∨ x = T) wr n (l + 1) k qs) (f (2 + d)) (f (34 + d * 2)) (f (34 + d * 2 + 1)) (f (98 + d)) (sub H l d xs)
  todo : ∀ d, c ≤ d → d < 32 → f (2 + d) = .int .i64 0
theorem sub_take_yes {H : ByteArray → Nat} {l c j : Nat} {xs : List Pr} (hj : j < xs.length) (h : chk H l xs[j].1 = c) : sub H l c (xs.take (j + 1)) = sub H l c (xs.take j) ++ [xs[j]] := by
  rw [List.take_succ_eq_append_getElem hj]
  unfold sub
  rw [List.filter_append]
  simp [h]
theorem sub_take_no {H : ByteArray → Nat} {l c j : Nat} {xs : List Pr} (hj : j < xs.length) (h : chk H l xs[j].1 ≠ c) : sub H l c (xs.take (j + 1)) = sub H l c (xs.take j) := by
  rw [List.take_succ_eq_append_getElem hj]
  unfold sub
  rw [List.filter_append]
  simp [h]
theorem OwnR.single {base : Nat} {w : World} {v : Value} {p : Pr} (h : OwnR base w v [p]) : ∃ g cap, v = .slice (some ⟨g, 0, none⟩) 1 cap ∧ w.cell? ⟨g, 0, none⟩ = some (.string p.1) ∧ w.cell? ⟨g, 1, none⟩ = some (.string p.2) := by
  obtain ⟨g, cap, cur, e, -⟩ := own_blk h (by simp)
  subst e
  have hh : w.ownsRow base 55 2 (.slice (some ⟨g, 0, none⟩) 1 cap) 1 (flat [p]) := h
  exact ⟨g, cap, rfl, by rw [hh.cellAt _ (by omega)]; rfl, by rw [hh.cellAt _ (by omega)]; rfl⟩
section
variable {H : ByteArray → Nat} {N : Nat → Prop} {n l T c : Nat} {xs : List Pr} {f : Nat → Value} {w w' : World}
theorem OfR.below (h : OfR H N n l xs T c f w) (hb : Below w.heap.size w w') : OfR H N n l xs T c f w' :=
  ⟨h.rb.below hb, h.f0, fun d hd => (h.done d hd).mono fun k hk => TrieR.below hk hb, h.todo⟩
theorem OfR.noPair (h : OfR H N n l xs T c f w) (hc : c < 32) (hs : sub H l c xs = []) : OfR H N n l xs T (c + 1) f w :=
  ⟨h.rb, h.f0, fun d hd => by
    by_cases e : d = c
    · subst e; rw [hs]; exact h.todo d (Nat.le_refl _) hc
    · exact h.done d (by omega), fun d h1 h2 => h.todo d (by omega) h2⟩
theorem trieR_set {k : Nat} {qs : List Pr} {m lv : Nat} {i : Nat} {v : Value} (h : TrieR H (fun x => N x ∨ x = T) w m lv k qs) : TrieR H (fun x => N x ∨ x = T) (w.setCell ⟨T, i, none⟩ v) m lv k qs :=
  TrieR.keepN (fun b hb hn => Below.heap_setCell w _ _ _ fun e => hn (.inr e)) m lv k qs h
theorem OfR.onePair {p : Pr} (h : OfR H N n l xs T c f w) (hc : c < 32) (hs : sub H l c xs = [p]) :
    ∃ f', OfR H N n l xs T (c + 1) f' (((w.setCell ⟨T, 2 + c, none⟩ (.int .i64 1)).setCell ⟨T, 34 + c * 2, none⟩ (.string p.1)).setCell ⟨T, 34 + c * 2 + 1, none⟩ (.string p.2)) := by
  refine ⟨upd (upd (upd f (2 + c) (.int .i64 1)) (34 + c * 2) (.string p.1)) (34 + c * 2 + 1) (.string p.2), ((h.rb.set _ _).set _ _).set _ _, ?_, fun d hd => ?_, fun d h1 h2 => ?_⟩
  · unfold upd; rw [if_neg (by omega), if_neg (by omega), if_neg (by omega)]; exact h.f0
  · by_cases e : d = c
    · subst e
      rw [hs]
      refine ⟨?_, ?_, ?_⟩
      · unfold upd; rw [if_neg (by omega), if_neg (by omega), if_pos rfl]
      · unfold upd; rw [if_neg (by omega), if_pos rfl]
      · unfold upd; rw [if_pos rfl]
    · have := h.done d (by omega)
      have e1 : ∀ i, i ≠ 2 + c → i ≠ 34 + c * 2 → i ≠ 34 + c * 2 + 1 → upd (upd (upd f (2 + c) (.int .i64 1)) (34 + c * 2) (.string p.1)) (34 + c * 2 + 1) (.string p.2) i = f i := fun i a1 a2 a3 => by
        unfold upd; rw [if_neg a3, if_neg a2, if_neg a1]
      rw [e1 _ (by omega) (by omega) (by omega), e1 _ (by omega) (by omega) (by omega), e1 _ (by omega) (by omega) (by omega), e1 _ (by omega) (by omega) (by omega)]
      exact this.mono fun k hk => trieR_set (trieR_set (trieR_set hk))
  · unfold upd; rw [if_neg (by omega), if_neg (by omega), if_neg (by omega)]; exact h.todo d (by omega) h2
theorem OfR.morePairs {kb : Nat} (h : OfR H N n l xs T c f w) (hc : c < 32) (hs : 2 ≤ (sub H l c xs).length) (hk : TrieR H (fun x => N x ∨ x = T) w n (l + 1) kb (sub H l c xs)) :
    ∃ f', OfR H N n l xs T (c + 1) f' ((w.setCell ⟨T, 2 + c, none⟩ (.int .i64 2)).setCell ⟨T, 98 + c, none⟩ (.pointer (some ⟨kb, 0, none⟩))) := by
  refine ⟨upd (upd f (2 + c) (.int .i64 2)) (98 + c) (.pointer (some ⟨kb, 0, none⟩)), (h.rb.set _ _).set _ _, ?_, fun d hd => ?_, fun d h1 h2 => ?_⟩
  · unfold upd; rw [if_neg (by omega), if_neg (by omega)]; exact h.f0
  · by_cases e : d = c
    · subst e
      have hx : ∃ x y r, sub H l d xs = x :: y :: r := by
        match sub H l d xs, hs with
        | x :: y :: r, _ => exact ⟨x, y, r, rfl⟩
      obtain ⟨x, y, r, e1⟩ := hx
      rw [e1] at hk ⊢
      refine ⟨?_, kb, ?_, trieR_set (trieR_set hk)⟩
      · unfold upd; rw [if_neg (by omega), if_pos rfl]
      · unfold upd; rw [if_pos rfl]; rfl
    · have := h.done d (by omega)
      have e1 : ∀ i, i ≠ 2 + c → i ≠ 98 + c → upd (upd f (2 + c) (.int .i64 2)) (98 + c) (.pointer (some ⟨kb, 0, none⟩)) i = f i := fun i a1 a2 => by
        unfold upd; rw [if_neg a2, if_neg a1]
      rw [e1 _ (by omega) (by omega), e1 _ (by omega) (by omega), e1 _ (by omega) (by omega), e1 _ (by omega) (by omega)]
      exact this.mono fun k hk => trieR_set (trieR_set hk)
  · unfold upd; rw [if_neg (by omega), if_neg (by omega)]; exact h.todo d (by omega) h2
end
set_option maxHeartbeats 16000000 in
theorem of_succ (H : ByteArray → Nat) (hH : ∀ k, H k < 18446744073709551616) (n l : Nat) (hl : n + 1 + l = 13)
    (ih : ∀ (N : Nat → Prop) (A : Option Addr) (c : Nat) (xs : List Pr) (bs : Nat) (v : Value) (w : World), Rd w A xs → (∀ a, A = some a → ¬ N a.block) → (∀ x, N x → x < w.heap.size) → xs.length ≤ 700 → OwnU bs w v (xs.map fun p => H p.1) → Calls Tryz.prog 36 #[.slice A xs.length c, v, .int .i64 (l + 1 : Nat)] w (OfPost H N n (l + 1) xs w))
    (N : Nat → Prop) (A : Option Addr) (c : Nat) (xs : List Pr) (bs : Nat) (v : Value) (w : World) (hR : Rd w A xs) (hN : ∀ x, N x → x < w.heap.size) (hn : xs.length ≤ 700) (hU : OwnU bs w v (xs.map fun p => H p.1)) :
    Calls Tryz.prog 36 #[.slice A xs.length c, v, .int .i64 l] w (OfPost H N (n + 1) l xs w) := by
  obtain ⟨i45, hi45, hy450, hy451, hy452⟩ := info_parts info45
  obtain ⟨i22, hi22, hy220, hy221, hy222⟩ := info_parts info22
  have hB0 := (Below.refl _ w).alloc (Nat.le_refl _) (.cells (rcs (rb0 false (.slice none 0 0))).toArray 60)
  have hT := RB.new w (rb0 false (.slice none 0 0))
  have L13 : ¬ ((l : Int) = 13) := by omega
  obtain ⟨HA, ch, rfl⟩ : ∃ HA ch, v = .slice HA xs.length ch := by
    obtain ⟨HA, ch, e⟩ := own_formN hU
    exact ⟨HA, ch, by rw [e, List.length_map]⟩
  have HR0 := Lib.hid hR
  have HU0 := Lib.hid hU
  have HIH := Lib.hid ih
  have HN0 := Lib.hid hN
  clear hR hU ih hN
  go_enter Tryz.func36, Tryz.ntmps36
  go_upto_region 4 with (first
    | (with_reducible refine wpList_runAt rfl _ rfl _ _ (build133n _ _ _ rfl) ?_)
    | (with_reducible refine wpList_runAt rfl _ rfl _ _ (box133 _ _ _ _ _ rfl rfl) ?_))
  generalize w.alloc (.cells (rcs (rb0 false (.slice none 0 0))).toArray 60) = W0 at *
  obtain ⟨T, hTe⟩ : ∃ T, T = w.heap.size := ⟨_, rfl⟩
  rw [← hTe] at hT ⊢
  have HTw := Lib.hid hTe
  have hOf : OfR H N n l xs T 0 (rb0 false (.slice none 0 0)) W0 := ⟨hT, rfl, fun d hd => by omega, fun d _ h2 => by
    unfold rb0; rw [if_neg (by omega), if_neg (by omega), if_pos (by omega)]⟩
  clear hT hTe
  go_wp2_with fail
  go_loopw [8] (fun v8 wr => ∃ (ci : Nat) (f : Nat → Value), ci ≤ 32 ∧ v8 = .int .i64 ci ∧ OfR H N n l xs T ci f wr ∧ Below w.heap.size w wr) (fun v8 wr => 32 - (intOf v8).toNat)
  case atStart => exact ⟨0, _, by omega, rfl, hOf, hB0⟩
  case round =>
    clear hOf hB0
    obtain ⟨ci, f, hc, rfl, hOf, hB⟩ := hrel
    by_cases hlt : ci < 32
    · obtain ⟨Wc, hWc⟩ : ∃ Wc, Wc = wr := ⟨_, rfl⟩
      subst hWc
      have C1 : (ci : Int) < 32 := by omega
      have HOf := Lib.hid hOf
      have HB := Lib.hid hB
      clear hOf hB
      go_wp2_with fail
      go_loopw [9, 10, 26] (fun v9 v10 v26 wr => ∃ j : Nat, j ≤ xs.length ∧ v26 = .int .i64 j ∧ OwnR Wc.heap.size wr v9 (sub H l ci (xs.take j)) ∧ OwnU Wc.heap.size wr v10 ((sub H l ci (xs.take j)).map fun p => H p.1) ∧ Below Wc.heap.size Wc wr) (fun v9 v10 v26 wr => xs.length - (intOf v26).toNat)
      case atStart => exact ⟨0, by omega, rfl, ⟨rfl, .inl ⟨rfl, rfl⟩⟩, ⟨rfl, .inl ⟨rfl, rfl⟩⟩, Below.refl _ _⟩
      case round =>
        obtain ⟨j, hj, rfl, hO9, hO10, hBi⟩ := hrel
        by_cases hjl : j < xs.length
        · have hBwi := HB.out.trans (hBi.mono HB.out.size)
          obtain ⟨g, off, rfl, c0, c1⟩ := (HR0.out.below hBwi) j xs[j] (List.getElem?_eq_getElem hjl)
          obtain ⟨gh, hA, hch⟩ : ∃ gh, HA = some ⟨gh, 0, none⟩ ∧ wr.cell? ⟨gh, j, none⟩ = some (.int .u64 ((xs.map fun p => H p.1)[j]'(by simpa using hjl) : Nat)) := by
            obtain ⟨gh', ch', e', hch'⟩ := (HU0.out.below hBwi).at j (by simpa using hjl)
            simp only [Value.slice.injEq] at e'
            exact ⟨gh', e'.1, hch'⟩
          subst hA
          have hgl : gh < Wc.heap.size := Nat.lt_of_lt_of_le (World.block_lt_of_cell? w ⟨gh, j, none⟩ (by
            obtain ⟨gh', ch', e', hch'⟩ := HU0.out.at j (by simpa using hjl)
            simp only [Value.slice.injEq, Option.some.injEq, Addr.mk.injEq, and_true, true_and] at e'
            obtain ⟨rfl, -⟩ := e'
            exact hch')) HB.out.size
          have J1 : (j : Int) < (xs.length : Int) := by omega
          have J2 : IntKind.i64.wrap ((j : Int) + 1) = ((j + 1 : Nat) : Int) := by rw [IntWalk.i64_in _ (by omega)]; omega
          have HTy := Lib.hid (fun h => sub_take_yes (H := H) (l := l) (c := ci) hjl h)
          have HTn := Lib.hid (fun h => sub_take_no (H := H) (l := l) (c := ci) hjl h)
          have hhj : (xs.map fun p => H p.1)[j]'(by simpa using hjl) = H xs[j].1 := by simp
          rw [hhj] at hch
          obtain ⟨q, hq⟩ : ∃ q, q = xs[j] := ⟨_, rfl⟩
          rw [← hq] at c0 c1 hch HTy HTn
          have ka := fun w' => refAt_any (H q.1 : Int) (l : Int) w' (by omega) (by have := hH q.1; omega)
          rw [atZ_chk H l q.1 (by omega)] at ka
          obtain ⟨hqv, hhq⟩ : ∃ hqv : Int, hqv = ((H q.1 : Nat) : Int) := ⟨_, rfl⟩
          rw [← hhq] at hch ka
          have Hhq := Lib.hid hhq
          clear hq hhj hhq
          go_upto_region 12 with (fail)
          have hBa := (Below.refl _ wr).alloc (Nat.le_refl _) (.cells #[.string q.1, .string q.2] 55)
          have hnew := Blk.new wr 55 #[.string q.1, .string q.2]
          have hG0 : G13 Wc.heap.size Wc (wr.alloc (.cells #[.string q.1, .string q.2] 55)) wr.heap.size q gh j hqv u9 u10 (sub H l ci (xs.take j)) ((sub H l ci (xs.take j)).map fun p => H p.1) :=
            ⟨hnew.cell 0, hnew.cell 1, (hBa.cell (p := ⟨gh, j, none⟩) (Nat.lt_of_lt_of_le hgl hBi.size)).trans hch, hgl,
             fun e => by obtain ⟨cur, h⟩ := own_cells hO9 _ e; exact absurd (blk_lt h) (Nat.lt_irrefl _),
             fun e => by obtain ⟨cur, h⟩ := own_cells hO10 _ e; exact absurd (blk_lt h) (Nat.lt_irrefl _),
             hnew.lt, own_keep hO9 (Keep.of_below (X := []) hBa) (by simp), own_keep hO10 (Keep.of_below (X := []) hBa) (by simp), hBi.trans (hBa.mono hBi.size), Nat.le_trans hBi.size hBa.size⟩
          have hch2 := hG0.eh
          have hBi2 := hG0.bel
          clear hO9 hO10 hBi hBa hnew c0 c1 hch hBwi
          generalize wr.alloc (.cells #[.string q.1, .string q.2] 55) = W at *
          generalize wr.heap.size = NN at *
          by_cases hcc : chk H l q.1 = ci
          · rw [hcc] at ka
            have HTk := Lib.hid (HTy.out hcc)
            clear HTy HTn hcc
            obtain ⟨R, hRe⟩ : ∃ R, R = sub H l ci (xs.take j) := ⟨_, rfl⟩
            obtain ⟨U, hUe⟩ : ∃ U, U = R.map fun p => H p.1 := ⟨_, rfl⟩
            rw [← hRe, ← hUe] at hG0
            rw [← hRe] at HTk
            have hRl : R.length ≤ 700 := by rw [hRe]; exact Nat.le_trans sub_len (by rw [List.length_take]; omega)
            obtain ⟨RL, hRL⟩ : ∃ RL, RL = R.length := ⟨_, rfl⟩
            have HRL := Lib.hid hRL
            have HUL := Lib.hid (by rw [hUe, List.length_map]; exact hRL : RL = U.length)
            have HUe := Lib.hid hUe
            have hRL7 : RL ≤ 700 := by omega
            clear hRe hUe hRl hRL hBi2
            go_wp2_with fail
            refine (ka _).mono ?_
            rintro e w' ⟨rfl, rfl⟩
            clear ka
            go_upto_region 13 with (fail)
            refine wp_region_late (S := fun w' => w'.cell? ⟨NN, 0, none⟩ = some (.string q.1) ∧ w'.cell? ⟨NN, 1, none⟩ = some (.string q.2) ∧ w'.cell? ⟨gh, j, none⟩ = some (.int .u64 hqv)) (st := 12) (by kernel_rfl) ?_
            have hG := hG0.drew
            have hS := hG.S
            clear hG0
            generalize W.drew = W at *
            refine wpAnyL_take0 (i := 0) (oi := { dst := some 39, op := Go.Op.move (Go.Operand.tmp 9), type := 30, pos := "ref.go:45", after := #[], guard := none }) (v := u9) rfl (by kernel_rfl) (by kernel_rfl) (by kernel_rfl) (by kernel_rfl) (fun _ _ _ h => h) hS (Or.inl ⟨by rfl, fun w hSw => ?_⟩) ?_
            · go_split_ands
              go_simp
            try simp only [Act.put, List.setIfInBounds_toArray, List.set_cons_zero, List.set_cons_succ]
            refine wpAnyL_take (i := 1) (oi := { dst := some 40, op := Go.Op.load 55 (Go.Operand.tmp 12), type := 55, pos := "ref.go:45", after := #[], guard := none }) (v := .agg #[.string q.1, .string q.2]) rfl (by kernel_rfl) (by kernel_rfl) (by kernel_rfl) (by kernel_rfl) (fun _ _ _ h => h) hS (Or.inl ⟨by rfl, fun w hSw => ?_⟩) ?_
            · go_split_ands
              go_simp
            try simp only [Act.put, List.setIfInBounds_toArray, List.set_cons_zero, List.set_cons_succ]
            refine wpAnyL_take0 (i := 4) (oi := { dst := some 43, op := Go.Op.move (Go.Operand.tmp 10), type := 83, pos := "ref.go:45", after := #[], guard := none }) (v := u10) rfl (by kernel_rfl) (by kernel_rfl) (by kernel_rfl) (by kernel_rfl) (fun _ _ _ h => h) hS (Or.inl ⟨by rfl, fun w hSw => ?_⟩) ?_
            · go_split_ands
              go_simp
            try simp only [Act.put, List.setIfInBounds_toArray, List.set_cons_zero, List.set_cons_succ]
            refine wpAnyL_take0 (i := 5) (oi := { dst := some 44, op := Go.Op.move (Go.Operand.tmp 1), type := 83, pos := "ref.go:45", after := #[], guard := none }) (v := .slice (some ⟨gh, 0, none⟩) xs.length ch) rfl (by kernel_rfl) (by kernel_rfl) (by kernel_rfl) (by kernel_rfl) (fun _ _ _ h => h) hS (Or.inl ⟨by rfl, fun w hSw => ?_⟩) ?_
            · go_split_ands
              go_simp
            try simp only [Act.put, List.setIfInBounds_toArray, List.set_cons_zero, List.set_cons_succ]
            refine wpAnyL_take0 (i := 6) (oi := { dst := some 45, op := Go.Op.move (Go.Operand.tmp 11), type := 3, pos := "ref.go:45", after := #[], guard := none }) (v := .int .i64 j) rfl (by kernel_rfl) (by kernel_rfl) (by kernel_rfl) (by kernel_rfl) (fun _ _ _ h => h) hS (Or.inl ⟨by rfl, fun w hSw => ?_⟩) ?_
            · go_split_ands
              go_simp
            try simp only [Act.put, List.setIfInBounds_toArray, List.set_cons_zero, List.set_cons_succ]
            refine wpAnyL_take0 (i := 7) (oi := { dst := some 46, op := Go.Op.indexAddr 83 (Go.Operand.tmp 44) (Go.Operand.tmp 45), type := 0, pos := "ref.go:45", after := #[{ on := 5, ground := Go.Ground.data }, { on := 6, ground := Go.Ground.data }], guard := none }) (v := .pointer (some ⟨gh, j, none⟩)) rfl (by kernel_rfl) (by kernel_rfl) (by kernel_rfl) (by kernel_rfl) (fun _ _ _ h => h) hS (Or.inl ⟨by rfl, fun w hSw => ?_⟩) ?_
            · go_split_ands
              go_simp
            try simp only [Act.put, List.setIfInBounds_toArray, List.set_cons_zero, List.set_cons_succ]
            refine wpAnyL_take (i := 8) (oi := { dst := some 47, op := Go.Op.load 22 (Go.Operand.tmp 46), type := 22, pos := "ref.go:45", after := #[{ on := 7, ground := Go.Ground.data }], guard := none }) (v := .int .u64 hqv) rfl (by kernel_rfl) (by kernel_rfl) (by kernel_rfl) (by kernel_rfl) (fun _ _ _ h => h) hS (Or.inl ⟨by rfl, fun w hSw => ?_⟩) ?_
            · go_split_ands
              go_simp
            try simp only [Act.put, List.setIfInBounds_toArray, List.set_cons_zero, List.set_cons_succ]
            refine wpAnyL_ready (rs := [2, 9]) (by kernel_rfl) (by simp) ?_
            refine AllReadyL.cons (o := { dst := some 41, op := Go.Op.buildSlice 30 1 #[(0, Go.Operand.tmp 40)], type := 30, pos := "ref.go:45", after := #[{ on := 1, ground := Go.Ground.data }], guard := none }) rfl (fun K hK => ?_) ?_
            · go_simp
              have hG2 := hG.alloc (.cells #[.string q.1, .string q.2] 55)
              have n2 : (W.alloc (.cells #[.string q.1, .string q.2] 55)).heap[W.heap.size]? = some (.cells #[.string q.1, .string q.2] 55 (0, 0)) := heap_alloc_new W _
              refine hK.out _ _ (fun _ => hG2.S) ?_
              clear hK K hS hG
              try simp only [Act.put, List.setIfInBounds_toArray, List.set_cons_zero, List.set_cons_succ]
              generalize W.alloc (.cells #[.string q.1, .string q.2] 55) = Wa at *
              generalize W.heap.size = B2 at *
              have hG := hG2
              have hS := hG.S
              clear hG2
              refine wpAnyL_ready (rs := [3, 9]) (by kernel_rfl) (by simp) ?_
              refine AllReadyL.cons (o := { dst := some 42, op := Go.Op.call { callee := Go.Callee.builtin Go.Builtin.append, args := #[Go.Operand.tmp 39, Go.Operand.tmp 41], argTypes := #[30, 30] }, type := 30, pos := "ref.go:45", after := #[{ on := 0, ground := Go.Ground.data }, { on := 2, ground := Go.Ground.data }], guard := none }) rfl (fun K hK => ?_) ?_
              · refine step_append_lies _ (by rfl) _ _ _ (by rfl) Wc.heap.size 55 i45 _ 2 32 Tryz.underlying30 hi45 hy450 hy451 hy452 zsz_pair (by decide) u9 RL (flat R) (by rfl) (by rw [HRL.out]; exact hG.r9) ⟨B2, 0, none⟩ 1 1 [.string q.1, .string q.2] (by rfl) rfl (World.news_of_block n2) (by simp [Value.oneCell']) (by omega) (by unfold maxLen; omega) (by omega) hG.hb _ rfl ?_
                intro g1 cap1 Wb hown1 hgrow1 hat1 hlt1
                have hG2 := hG.grow9 (g := g1) (cap := cap1) hgrow1 (by rw [← HRL.out]; exact hown1) hat1
                skip
                refine hK.out _ _ (fun _ => hG2.S) ?_
                clear hK K hS hgrow1 hat1 hlt1 hown1 n2 hG
                try simp only [Act.put, List.setIfInBounds_toArray, List.set_cons_zero, List.set_cons_succ]
                have hG := hG2
                have hS := hG.S
                clear hG2
                refine wpAnyL_ready (rs := [9]) (by kernel_rfl) (by simp) ?_
                refine AllReadyL.cons (o := { dst := some 48, op := Go.Op.buildSlice 83 1 #[(0, Go.Operand.tmp 47)], type := 83, pos := "ref.go:45", after := #[{ on := 8, ground := Go.Ground.data }], guard := none }) rfl (fun K hK => ?_) AllReadyL.nil
                go_simp
                have hG2 := hG.alloc (.cells #[.int .u64 hqv] 22)
                have n9 : (Wb.alloc (.cells #[.int .u64 hqv] 22)).heap[Wb.heap.size]? = some (.cells #[.int .u64 hqv] 22 (0, 0)) := heap_alloc_new Wb _
                refine hK.out _ _ (fun _ => hG2.S) ?_
                clear hK K hS hG
                try simp only [Act.put, List.setIfInBounds_toArray, List.set_cons_zero, List.set_cons_succ]
                generalize Wb.alloc (.cells #[.int .u64 hqv] 22) = Wd at *
                generalize Wb.heap.size = B9 at *
                have hG := hG2
                have hS := hG.S
                clear hG2
                refine wpAnyL_ready (rs := [10]) (by kernel_rfl) (by simp) ?_
                refine AllReadyL.cons (o := { dst := some 49, op := Go.Op.call { callee := Go.Callee.builtin Go.Builtin.append, args := #[Go.Operand.tmp 43, Go.Operand.tmp 48], argTypes := #[83, 83] }, type := 83, pos := "ref.go:45", after := #[{ on := 4, ground := Go.Ground.data }, { on := 9, ground := Go.Ground.data }, { on := 3, ground := Go.Ground.chain }], guard := none }) rfl (fun K hK => ?_) AllReadyL.nil
                refine step_append_lies _ (by rfl) _ _ _ (by rfl) Wc.heap.size 22 i22 _ 1 8 Tryz.underlying83 hi22 hy220 hy221 hy222 zsz_u64 (by decide) u10 RL (ucs U) (by rfl) (by rw [HUL.out]; exact hG.r10) ⟨B9, 0, none⟩ 1 1 [.int .u64 hqv] (by rfl) rfl (World.news_of_block n9) (by simp [Value.oneCell']) (by omega) (by unfold maxLen; omega) (by omega) hG.hb _ rfl ?_
                intro g2 cap2 We hown2 hgrow2 hat2 hlt2
                have hG2 := hG.grow10 (g := g2) (cap := cap2) Hhq.out hgrow2 (by rw [← HUL.out]; exact hown2) hat2
                refine hK.out _ _ (fun _ => hG2.S) ?_
                clear hK K hS hgrow2 hat2 hlt2 hown2 n9 hG
                try simp only [Act.put, List.setIfInBounds_toArray, List.set_cons_zero, List.set_cons_succ]
                have hG := hG2
                have hS := hG.S
                clear hG2
                refine wpAnyL_ready (rs := [11]) (by kernel_rfl) (by simp) ?_
                refine AllReadyL.cons (o := { dst := some 9, op := Go.Op.assign (Go.Operand.tmp 42), type := 30, pos := "ref.go:45", after := #[{ on := 3, ground := Go.Ground.data }, { on := 10, ground := Go.Ground.chain }, { on := 0, ground := Go.Ground.phase }, { on := 1, ground := Go.Ground.phase }, { on := 2, ground := Go.Ground.phase }, { on := 3, ground := Go.Ground.phase }, { on := 4, ground := Go.Ground.textOnly Go.Departure.lateStores }, { on := 5, ground := Go.Ground.textOnly Go.Departure.lateStores }, { on := 6, ground := Go.Ground.textOnly Go.Departure.lateStores }, { on := 7, ground := Go.Ground.textOnly Go.Departure.lateStores }, { on := 8, ground := Go.Ground.textOnly Go.Departure.lateStores }, { on := 9, ground := Go.Ground.textOnly Go.Departure.lateStores }, { on := 10, ground := Go.Ground.textOnly Go.Departure.lateStoresUnsure }], guard := none }) rfl (fun K hK => ?_) AllReadyL.nil
                go_simp
                refine hK.out _ _ (fun _ => hS) ?_
                clear hK K
                try simp only [Act.put, List.setIfInBounds_toArray, List.set_cons_zero, List.set_cons_succ]
                refine wpAnyL_ready (rs := [12]) (by kernel_rfl) (by simp) ?_
                refine AllReadyL.cons (o := { dst := some 10, op := Go.Op.assign (Go.Operand.tmp 49), type := 83, pos := "ref.go:45", after := #[{ on := 10, ground := Go.Ground.data }, { on := 11, ground := Go.Ground.chain }, { on := 0, ground := Go.Ground.phase }, { on := 1, ground := Go.Ground.phase }, { on := 2, ground := Go.Ground.phase }, { on := 3, ground := Go.Ground.phase }, { on := 4, ground := Go.Ground.phase }, { on := 5, ground := Go.Ground.phase }, { on := 6, ground := Go.Ground.phase }, { on := 7, ground := Go.Ground.phase }, { on := 8, ground := Go.Ground.phase }, { on := 9, ground := Go.Ground.phase }, { on := 10, ground := Go.Ground.phase }, { on := 11, ground := Go.Ground.phase }], guard := none }) rfl (fun K hK => ?_) AllReadyL.nil
                go_simp
                refine hK.out _ _ (late_no (by kernel_rfl)) ?_
                clear hK K
                try simp only [Act.put, List.setIfInBounds_toArray, List.set_cons_zero, List.set_cons_succ]
                refine wpAnyL_done (by kernel_rfl) ?_ _
                go_wp2_with fail
                refine ⟨⟨j + 1, by omega, by go_num, ?_, ?_, hG.bel⟩, by simp [intOf]; omega⟩
                · rw [HTk.out]
                  have := hG.r9
                  rw [List.length_append, List.length_singleton] at this
                  rw [HRL.out]
                  unfold OwnR
                  rw [List.length_append, List.length_singleton]
                  exact this
                · rw [HTk.out, List.map_append, ← HUe.out]
                  have := hG.r10
                  rw [List.length_append, List.length_singleton] at this
                  rw [HUL.out]
                  unfold OwnU
                  rw [List.length_append]
                  exact this
              refine AllReadyL.cons (o := { dst := some 48, op := Go.Op.buildSlice 83 1 #[(0, Go.Operand.tmp 47)], type := 83, pos := "ref.go:45", after := #[{ on := 8, ground := Go.Ground.data }], guard := none }) rfl (fun K hK => ?_) AllReadyL.nil
              go_simp
              have hG2 := hG.alloc (.cells #[.int .u64 hqv] 22)
              have n9 : (Wa.alloc (.cells #[.int .u64 hqv] 22)).heap[Wa.heap.size]? = some (.cells #[.int .u64 hqv] 22 (0, 0)) := heap_alloc_new Wa _
              have n2 := (Below.heap_alloc Wa (.cells #[.int .u64 hqv] 22) B2 (blk_lt n2)).trans n2
              refine hK.out _ _ (fun _ => hG2.S) ?_
              clear hK K hS hG
              try simp only [Act.put, List.setIfInBounds_toArray, List.set_cons_zero, List.set_cons_succ]
              generalize Wa.alloc (.cells #[.int .u64 hqv] 22) = Wb at *
              generalize Wa.heap.size = B9 at *
              have hG := hG2
              have hS := hG.S
              clear hG2
              refine wpAnyL_ready (rs := [3]) (by kernel_rfl) (by simp) ?_
              refine AllReadyL.cons (o := { dst := some 42, op := Go.Op.call { callee := Go.Callee.builtin Go.Builtin.append, args := #[Go.Operand.tmp 39, Go.Operand.tmp 41], argTypes := #[30, 30] }, type := 30, pos := "ref.go:45", after := #[{ on := 0, ground := Go.Ground.data }, { on := 2, ground := Go.Ground.data }], guard := none }) rfl (fun K hK => ?_) AllReadyL.nil
              refine step_append_lies _ (by rfl) _ _ _ (by rfl) Wc.heap.size 55 i45 _ 2 32 Tryz.underlying30 hi45 hy450 hy451 hy452 zsz_pair (by decide) u9 RL (flat R) (by rfl) (by rw [HRL.out]; exact hG.r9) ⟨B2, 0, none⟩ 1 1 [.string q.1, .string q.2] (by rfl) rfl (World.news_of_block n2) (by simp [Value.oneCell']) (by omega) (by unfold maxLen; omega) (by omega) hG.hb _ rfl ?_
              intro g1 cap1 Wd hown1 hgrow1 hat1 hlt1
              have hG2 := hG.grow9 (g := g1) (cap := cap1) hgrow1 (by rw [← HRL.out]; exact hown1) hat1
              have n9 := (hgrow1.block B9 (blk_lt n9) (fun e => own_ne hG.r9 (fun cur h => by rw [n9] at h; cases h) e.symm)).trans n9
              refine hK.out _ _ (fun _ => hG2.S) ?_
              clear hK K hS hgrow1 hat1 hlt1 hown1 n2 hG
              try simp only [Act.put, List.setIfInBounds_toArray, List.set_cons_zero, List.set_cons_succ]
              have hG := hG2
              have hS := hG.S
              clear hG2
              refine wpAnyL_ready (rs := [10]) (by kernel_rfl) (by simp) ?_
              refine AllReadyL.cons (o := { dst := some 49, op := Go.Op.call { callee := Go.Callee.builtin Go.Builtin.append, args := #[Go.Operand.tmp 43, Go.Operand.tmp 48], argTypes := #[83, 83] }, type := 83, pos := "ref.go:45", after := #[{ on := 4, ground := Go.Ground.data }, { on := 9, ground := Go.Ground.data }, { on := 3, ground := Go.Ground.chain }], guard := none }) rfl (fun K hK => ?_) AllReadyL.nil
              refine step_append_lies _ (by rfl) _ _ _ (by rfl) Wc.heap.size 22 i22 _ 1 8 Tryz.underlying83 hi22 hy220 hy221 hy222 zsz_u64 (by decide) u10 RL (ucs U) (by rfl) (by rw [HUL.out]; exact hG.r10) ⟨B9, 0, none⟩ 1 1 [.int .u64 hqv] (by rfl) rfl (World.news_of_block n9) (by simp [Value.oneCell']) (by omega) (by unfold maxLen; omega) (by omega) hG.hb _ rfl ?_
              intro g2 cap2 We hown2 hgrow2 hat2 hlt2
              have hG2 := hG.grow10 (g := g2) (cap := cap2) Hhq.out hgrow2 (by rw [← HUL.out]; exact hown2) hat2
              refine hK.out _ _ (fun _ => hG2.S) ?_
              clear hK K hS hgrow2 hat2 hlt2 hown2 n9 hG
              try simp only [Act.put, List.setIfInBounds_toArray, List.set_cons_zero, List.set_cons_succ]
              have hG := hG2
              have hS := hG.S
              clear hG2
              refine wpAnyL_ready (rs := [11]) (by kernel_rfl) (by simp) ?_
              refine AllReadyL.cons (o := { dst := some 9, op := Go.Op.assign (Go.Operand.tmp 42), type := 30, pos := "ref.go:45", after := #[{ on := 3, ground := Go.Ground.data }, { on := 10, ground := Go.Ground.chain }, { on := 0, ground := Go.Ground.phase }, { on := 1, ground := Go.Ground.phase }, { on := 2, ground := Go.Ground.phase }, { on := 3, ground := Go.Ground.phase }, { on := 4, ground := Go.Ground.textOnly Go.Departure.lateStores }, { on := 5, ground := Go.Ground.textOnly Go.Departure.lateStores }, { on := 6, ground := Go.Ground.textOnly Go.Departure.lateStores }, { on := 7, ground := Go.Ground.textOnly Go.Departure.lateStores }, { on := 8, ground := Go.Ground.textOnly Go.Departure.lateStores }, { on := 9, ground := Go.Ground.textOnly Go.Departure.lateStores }, { on := 10, ground := Go.Ground.textOnly Go.Departure.lateStoresUnsure }], guard := none }) rfl (fun K hK => ?_) AllReadyL.nil
              go_simp
              refine hK.out _ _ (fun _ => hS) ?_
              clear hK K
              try simp only [Act.put, List.setIfInBounds_toArray, List.set_cons_zero, List.set_cons_succ]
              refine wpAnyL_ready (rs := [12]) (by kernel_rfl) (by simp) ?_
              refine AllReadyL.cons (o := { dst := some 10, op := Go.Op.assign (Go.Operand.tmp 49), type := 83, pos := "ref.go:45", after := #[{ on := 10, ground := Go.Ground.data }, { on := 11, ground := Go.Ground.chain }, { on := 0, ground := Go.Ground.phase }, { on := 1, ground := Go.Ground.phase }, { on := 2, ground := Go.Ground.phase }, { on := 3, ground := Go.Ground.phase }, { on := 4, ground := Go.Ground.phase }, { on := 5, ground := Go.Ground.phase }, { on := 6, ground := Go.Ground.phase }, { on := 7, ground := Go.Ground.phase }, { on := 8, ground := Go.Ground.phase }, { on := 9, ground := Go.Ground.phase }, { on := 10, ground := Go.Ground.phase }, { on := 11, ground := Go.Ground.phase }], guard := none }) rfl (fun K hK => ?_) AllReadyL.nil
              go_simp
              refine hK.out _ _ (late_no (by kernel_rfl)) ?_
              clear hK K
              try simp only [Act.put, List.setIfInBounds_toArray, List.set_cons_zero, List.set_cons_succ]
              refine wpAnyL_done (by kernel_rfl) ?_ _
              go_wp2_with fail
              refine ⟨⟨j + 1, by omega, by go_num, ?_, ?_, hG.bel⟩, by simp [intOf]; omega⟩
              · rw [HTk.out]
                have := hG.r9
                rw [List.length_append, List.length_singleton] at this
                rw [HRL.out]
                unfold OwnR
                rw [List.length_append, List.length_singleton]
                exact this
              · rw [HTk.out, List.map_append, ← HUe.out]
                have := hG.r10
                rw [List.length_append, List.length_singleton] at this
                rw [HUL.out]
                unfold OwnU
                rw [List.length_append]
                exact this
            refine AllReadyL.cons (o := { dst := some 48, op := Go.Op.buildSlice 83 1 #[(0, Go.Operand.tmp 47)], type := 83, pos := "ref.go:45", after := #[{ on := 8, ground := Go.Ground.data }], guard := none }) rfl (fun K hK => ?_) AllReadyL.nil
            go_simp
            have hG2 := hG.alloc (.cells #[.int .u64 hqv] 22)
            have n9 : (W.alloc (.cells #[.int .u64 hqv] 22)).heap[W.heap.size]? = some (.cells #[.int .u64 hqv] 22 (0, 0)) := heap_alloc_new W _
            refine hK.out _ _ (fun _ => hG2.S) ?_
            clear hK K hS hG
            try simp only [Act.put, List.setIfInBounds_toArray, List.set_cons_zero, List.set_cons_succ]
            generalize W.alloc (.cells #[.int .u64 hqv] 22) = Wa at *
            generalize W.heap.size = B9 at *
            have hG := hG2
            have hS := hG.S
            clear hG2
            refine wpAnyL_ready (rs := [2]) (by kernel_rfl) (by simp) ?_
            refine AllReadyL.cons (o := { dst := some 41, op := Go.Op.buildSlice 30 1 #[(0, Go.Operand.tmp 40)], type := 30, pos := "ref.go:45", after := #[{ on := 1, ground := Go.Ground.data }], guard := none }) rfl (fun K hK => ?_) AllReadyL.nil
            go_simp
            have hG2 := hG.alloc (.cells #[.string q.1, .string q.2] 55)
            have n2 : (Wa.alloc (.cells #[.string q.1, .string q.2] 55)).heap[Wa.heap.size]? = some (.cells #[.string q.1, .string q.2] 55 (0, 0)) := heap_alloc_new Wa _
            have n9 := (Below.heap_alloc Wa (.cells #[.string q.1, .string q.2] 55) B9 (blk_lt n9)).trans n9
            refine hK.out _ _ (fun _ => hG2.S) ?_
            clear hK K hS hG
            try simp only [Act.put, List.setIfInBounds_toArray, List.set_cons_zero, List.set_cons_succ]
            generalize Wa.alloc (.cells #[.string q.1, .string q.2] 55) = Wb at *
            generalize Wa.heap.size = B2 at *
            have hG := hG2
            have hS := hG.S
            clear hG2
            refine wpAnyL_ready (rs := [3]) (by kernel_rfl) (by simp) ?_
            refine AllReadyL.cons (o := { dst := some 42, op := Go.Op.call { callee := Go.Callee.builtin Go.Builtin.append, args := #[Go.Operand.tmp 39, Go.Operand.tmp 41], argTypes := #[30, 30] }, type := 30, pos := "ref.go:45", after := #[{ on := 0, ground := Go.Ground.data }, { on := 2, ground := Go.Ground.data }], guard := none }) rfl (fun K hK => ?_) AllReadyL.nil
            refine step_append_lies _ (by rfl) _ _ _ (by rfl) Wc.heap.size 55 i45 _ 2 32 Tryz.underlying30 hi45 hy450 hy451 hy452 zsz_pair (by decide) u9 RL (flat R) (by rfl) (by rw [HRL.out]; exact hG.r9) ⟨B2, 0, none⟩ 1 1 [.string q.1, .string q.2] (by rfl) rfl (World.news_of_block n2) (by simp [Value.oneCell']) (by omega) (by unfold maxLen; omega) (by omega) hG.hb _ rfl ?_
            intro g1 cap1 Wd hown1 hgrow1 hat1 hlt1
            have hG2 := hG.grow9 (g := g1) (cap := cap1) hgrow1 (by rw [← HRL.out]; exact hown1) hat1
            have n9 := (hgrow1.block B9 (blk_lt n9) (fun e => own_ne hG.r9 (fun cur h => by rw [n9] at h; cases h) e.symm)).trans n9
            refine hK.out _ _ (fun _ => hG2.S) ?_
            clear hK K hS hgrow1 hat1 hlt1 hown1 n2 hG
            try simp only [Act.put, List.setIfInBounds_toArray, List.set_cons_zero, List.set_cons_succ]
            have hG := hG2
            have hS := hG.S
            clear hG2
            refine wpAnyL_ready (rs := [10]) (by kernel_rfl) (by simp) ?_
            refine AllReadyL.cons (o := { dst := some 49, op := Go.Op.call { callee := Go.Callee.builtin Go.Builtin.append, args := #[Go.Operand.tmp 43, Go.Operand.tmp 48], argTypes := #[83, 83] }, type := 83, pos := "ref.go:45", after := #[{ on := 4, ground := Go.Ground.data }, { on := 9, ground := Go.Ground.data }, { on := 3, ground := Go.Ground.chain }], guard := none }) rfl (fun K hK => ?_) AllReadyL.nil
            refine step_append_lies _ (by rfl) _ _ _ (by rfl) Wc.heap.size 22 i22 _ 1 8 Tryz.underlying83 hi22 hy220 hy221 hy222 zsz_u64 (by decide) u10 RL (ucs U) (by rfl) (by rw [HUL.out]; exact hG.r10) ⟨B9, 0, none⟩ 1 1 [.int .u64 hqv] (by rfl) rfl (World.news_of_block n9) (by simp [Value.oneCell']) (by omega) (by unfold maxLen; omega) (by omega) hG.hb _ rfl ?_
            intro g2 cap2 We hown2 hgrow2 hat2 hlt2
            have hG2 := hG.grow10 (g := g2) (cap := cap2) Hhq.out hgrow2 (by rw [← HUL.out]; exact hown2) hat2
            refine hK.out _ _ (fun _ => hG2.S) ?_
            clear hK K hS hgrow2 hat2 hlt2 hown2 n9 hG
            try simp only [Act.put, List.setIfInBounds_toArray, List.set_cons_zero, List.set_cons_succ]
            have hG := hG2
            have hS := hG.S
            clear hG2
            refine wpAnyL_ready (rs := [11]) (by kernel_rfl) (by simp) ?_
            refine AllReadyL.cons (o := { dst := some 9, op := Go.Op.assign (Go.Operand.tmp 42), type := 30, pos := "ref.go:45", after := #[{ on := 3, ground := Go.Ground.data }, { on := 10, ground := Go.Ground.chain }, { on := 0, ground := Go.Ground.phase }, { on := 1, ground := Go.Ground.phase }, { on := 2, ground := Go.Ground.phase }, { on := 3, ground := Go.Ground.phase }, { on := 4, ground := Go.Ground.textOnly Go.Departure.lateStores }, { on := 5, ground := Go.Ground.textOnly Go.Departure.lateStores }, { on := 6, ground := Go.Ground.textOnly Go.Departure.lateStores }, { on := 7, ground := Go.Ground.textOnly Go.Departure.lateStores }, { on := 8, ground := Go.Ground.textOnly Go.Departure.lateStores }, { on := 9, ground := Go.Ground.textOnly Go.Departure.lateStores }, { on := 10, ground := Go.Ground.textOnly Go.Departure.lateStoresUnsure }], guard := none }) rfl (fun K hK => ?_) AllReadyL.nil
            go_simp
            refine hK.out _ _ (fun _ => hS) ?_
            clear hK K
            try simp only [Act.put, List.setIfInBounds_toArray, List.set_cons_zero, List.set_cons_succ]
            refine wpAnyL_ready (rs := [12]) (by kernel_rfl) (by simp) ?_
            refine AllReadyL.cons (o := { dst := some 10, op := Go.Op.assign (Go.Operand.tmp 49), type := 83, pos := "ref.go:45", after := #[{ on := 10, ground := Go.Ground.data }, { on := 11, ground := Go.Ground.chain }, { on := 0, ground := Go.Ground.phase }, { on := 1, ground := Go.Ground.phase }, { on := 2, ground := Go.Ground.phase }, { on := 3, ground := Go.Ground.phase }, { on := 4, ground := Go.Ground.phase }, { on := 5, ground := Go.Ground.phase }, { on := 6, ground := Go.Ground.phase }, { on := 7, ground := Go.Ground.phase }, { on := 8, ground := Go.Ground.phase }, { on := 9, ground := Go.Ground.phase }, { on := 10, ground := Go.Ground.phase }, { on := 11, ground := Go.Ground.phase }], guard := none }) rfl (fun K hK => ?_) AllReadyL.nil
            go_simp
            refine hK.out _ _ (late_no (by kernel_rfl)) ?_
            clear hK K
            try simp only [Act.put, List.setIfInBounds_toArray, List.set_cons_zero, List.set_cons_succ]
            refine wpAnyL_done (by kernel_rfl) ?_ _
            go_wp2_with fail
            refine ⟨⟨j + 1, by omega, by go_num, ?_, ?_, hG.bel⟩, by simp [intOf]; omega⟩
            · rw [HTk.out]
              have := hG.r9
              rw [List.length_append, List.length_singleton] at this
              rw [HRL.out]
              unfold OwnR
              rw [List.length_append, List.length_singleton]
              exact this
            · rw [HTk.out, List.map_append, ← HUe.out]
              have := hG.r10
              rw [List.length_append, List.length_singleton] at this
              rw [HUL.out]
              unfold OwnU
              rw [List.length_append]
              exact this

          · have hcn : ¬ (((chk H l q.1 : Nat) : Int) = (ci : Int)) := by omega
            have HTk := Lib.hid (HTn.out hcc)
            have h9 := hG0.r9
            have h10 := hG0.r10
            clear HTy HTn hcc hG0
            generalize chk H l q.1 = C at *
            go_wp2_with fail
            refine (ka _).mono ?_
            rintro e w' ⟨rfl, rfl⟩
            clear ka
            go_wp2_with fail
            refine ⟨⟨j + 1, by omega, by go_num, ?_, ?_, hBi2⟩, by simp [intOf]; omega⟩
            · rw [HTk.out]; exact h9
            · rw [HTk.out]; exact h10
        · obtain rfl : j = xs.length := by omega
          rw [List.take_length] at hO9 hO10
          have L0 : ¬ ((xs.length : Int) < (xs.length : Int)) := by omega
          have L7 : IntKind.i64.wrap ((ci : Int) + 1) = ((ci + 1 : Nat) : Int) := by rw [IntWalk.i64_in _ (by omega)]; omega
          have hO := HOf.out.below hBi
          have hBw := HB.out.trans (hBi.mono HB.out.size)
          have hTw : w.heap.size ≤ T := Nat.le_of_eq HTw.out.symm
          have hql : (sub H l ci xs).length ≤ 700 := Nat.le_trans sub_len hn
          by_cases h0 : (sub H l ci xs).length = 0
          · have hs := List.length_eq_zero_iff.1 h0
            have hO2 := hO.noPair hlt hs
            obtain ⟨A9, c9, rfl, hR9⟩ := hO9.rd
            rw [hs] at hR9 ⊢
            clear hO9 hO10 hO hR9 HOf HB
            go_wp2_with fail
            exact ⟨⟨ci + 1, f, by omega, by go_num, hO2, hBw⟩, by simp [intOf]; omega⟩
          · by_cases h1 : (sub H l ci xs).length = 1
            · obtain ⟨p, hs⟩ := List.length_eq_one_iff.1 h1
              rw [hs] at hO9
              obtain ⟨g9, c9, rfl, d0, d1⟩ := hO9.single
              obtain ⟨f', hO2⟩ := hO.onePair hlt hs
              have hRB := hO.rb
              have z2 := hRB.cell (2 + ci) (by omega)
              have y2 := hRB.frozen (2 + ci)
              have z3 := hRB.cell (34 + ci * 2) (by omega)
              have y3 := hRB.frozen (34 + ci * 2)
              have z4 := hRB.cell (34 + ci * 2 + 1) (by omega)
              have y4 := hRB.frozen (34 + ci * 2 + 1)
              have hBw2 : Below w.heap.size w (((wr.setCell ⟨T, 2 + ci, none⟩ (.int .i64 1)).setCell ⟨T, 34 + ci * 2, none⟩ (.string p.1)).setCell ⟨T, 34 + ci * 2 + 1, none⟩ (.string p.2)) := ((hBw.setCell (p := ⟨T, 2 + ci, none⟩) hTw _).setCell (p := ⟨T, 34 + ci * 2, none⟩) hTw _).setCell (p := ⟨T, 34 + ci * 2 + 1, none⟩) hTw _
              have HO2 := Lib.hid hO2
              have HBw2 := Lib.hid hBw2
              clear hO9 hO10 hO HOf HB hO2 hBw2 hRB hBw hBi hs h1 h0 hql
              go_upto_region 16 with (fail)
              refine wp_region_late (S := fun w' => w'.cell? ⟨g9, 0, none⟩ = some (.string p.1) ∧ w'.cell? ⟨g9, 1, none⟩ = some (.string p.2)) (st := 10) (by kernel_rfl) ?_
              have hS : wr.drew.cell? ⟨g9, 0, none⟩ = some (.string p.1) ∧ wr.drew.cell? ⟨g9, 1, none⟩ = some (.string p.2) := ⟨d0, d1⟩
              refine wpAnyL_take0 (i := 0) (oi := { dst := some 54, op := Go.Op.move (Go.Operand.tmp 7), type := 37, pos := "ref.go:49", after := #[], guard := none }) (v := .pointer (some ⟨T, 0, none⟩)) rfl (by kernel_rfl) (by kernel_rfl) (by kernel_rfl) (by kernel_rfl) (fun _ _ _ h => h) hS (Or.inl ⟨by rfl, fun w hSw => ?_⟩) ?_
              · go_split_ands
                go_simp
              try simp only [Act.put, List.setIfInBounds_toArray, List.set_cons_zero, List.set_cons_succ]
              refine wpAnyL_take0 (i := 1) (oi := { dst := some 55, op := Go.Op.move (Go.Operand.tmp 8), type := 3, pos := "ref.go:49", after := #[], guard := none }) (v := .int .i64 ci) rfl (by kernel_rfl) (by kernel_rfl) (by kernel_rfl) (by kernel_rfl) (fun _ _ _ h => h) hS (Or.inl ⟨by rfl, fun w hSw => ?_⟩) ?_
              · go_split_ands
                go_simp
              try simp only [Act.put, List.setIfInBounds_toArray, List.set_cons_zero, List.set_cons_succ]
              refine wpAnyL_take0 (i := 2) (oi := { dst := some 56, op := Go.Op.move (Go.Operand.tmp 7), type := 37, pos := "ref.go:49", after := #[{ on := 10, ground := Go.Ground.gcOnly Go.Departure.lateStores }], guard := none }) (v := .pointer (some ⟨T, 0, none⟩)) rfl (by kernel_rfl) (by kernel_rfl) (by kernel_rfl) (by kernel_rfl) (fun _ _ _ h => h) hS (Or.inl ⟨by rfl, fun w hSw => ?_⟩) ?_
              · go_split_ands
                go_simp
              try simp only [Act.put, List.setIfInBounds_toArray, List.set_cons_zero, List.set_cons_succ]
              refine wpAnyL_take0 (i := 3) (oi := { dst := some 57, op := Go.Op.move (Go.Operand.tmp 8), type := 3, pos := "ref.go:49", after := #[{ on := 10, ground := Go.Ground.gcOnly Go.Departure.lateStores }], guard := none }) (v := .int .i64 ci) rfl (by kernel_rfl) (by kernel_rfl) (by kernel_rfl) (by kernel_rfl) (fun _ _ _ h => h) hS (Or.inl ⟨by rfl, fun w hSw => ?_⟩) ?_
              · go_split_ands
                go_simp
              try simp only [Act.put, List.setIfInBounds_toArray, List.set_cons_zero, List.set_cons_succ]
              refine wpAnyL_take0 (i := 4) (oi := { dst := some 58, op := Go.Op.move (Go.Operand.tmp 9), type := 30, pos := "ref.go:49", after := #[], guard := none }) (v := .slice (some ⟨g9, 0, none⟩) 1 c9) rfl (by kernel_rfl) (by kernel_rfl) (by kernel_rfl) (by kernel_rfl) (fun _ _ _ h => h) hS (Or.inl ⟨by rfl, fun w hSw => ?_⟩) ?_
              · go_split_ands
                go_simp
              try simp only [Act.put, List.setIfInBounds_toArray, List.set_cons_zero, List.set_cons_succ]
              refine wpAnyL_take0 (i := 5) (oi := { dst := some 59, op := Go.Op.indexAddr 30 (Go.Operand.tmp 58) (Go.Operand.const (Go.Value.int Go.IntKind.i64 0)), type := 0, pos := "ref.go:49", after := #[{ on := 4, ground := Go.Ground.data }], guard := none }) (v := .pointer (some ⟨g9, 0, none⟩)) rfl (by kernel_rfl) (by kernel_rfl) (by kernel_rfl) (by kernel_rfl) (fun _ _ _ h => h) hS (Or.inl ⟨by rfl, fun w hSw => ?_⟩) ?_
              · go_split_ands
                go_simp
              try simp only [Act.put, List.setIfInBounds_toArray, List.set_cons_zero, List.set_cons_succ]
              refine wpAnyL_take (i := 6) (oi := { dst := some 60, op := Go.Op.load 55 (Go.Operand.tmp 59), type := 55, pos := "ref.go:49", after := #[{ on := 5, ground := Go.Ground.data }], guard := none }) (v := .agg #[.string p.1, .string p.2]) rfl (by kernel_rfl) (by kernel_rfl) (by kernel_rfl) (by kernel_rfl) (fun _ _ _ h => h) hS (Or.inl ⟨by rfl, fun w hSw => ?_⟩) ?_
              · go_split_ands
                go_simp
              try simp only [Act.put, List.setIfInBounds_toArray, List.set_cons_zero, List.set_cons_succ]
              refine wpAnyL_take0 (i := 7) (oi := { dst := some 61, op := Go.Op.nilCheck (Go.Operand.tmp 54), type := 0, pos := "ref.go:49", after := #[{ on := 0, ground := Go.Ground.data }], guard := none }) (v := .pointer (some ⟨T, 0, none⟩)) rfl (by kernel_rfl) (by kernel_rfl) (by kernel_rfl) (by kernel_rfl) (fun _ _ _ h => h) hS (Or.inl ⟨by rfl, fun w hSw => ?_⟩) ?_
              · go_split_ands
                go_simp
              try simp only [Act.put, List.setIfInBounds_toArray, List.set_cons_zero, List.set_cons_succ]
              refine wpAnyL_take0 (i := 8) (oi := { dst := some 62, op := Go.Op.fieldAddr 60 (Go.Operand.tmp 61) 2, type := 0, pos := "ref.go:49", after := #[{ on := 7, ground := Go.Ground.data }], guard := none }) (v := .pointer (some ⟨T, 2, none⟩)) rfl (by kernel_rfl) (by kernel_rfl) (by kernel_rfl) (by kernel_rfl) (fun _ _ _ h => h) hS (Or.inl ⟨by rfl, fun w hSw => ?_⟩) ?_
              · go_split_ands
                go_simp
              try simp only [Act.put, List.setIfInBounds_toArray, List.set_cons_zero, List.set_cons_succ]
              refine wpAnyL_take0 (i := 11) (oi := { dst := some 64, op := Go.Op.nilCheck (Go.Operand.tmp 56), type := 0, pos := "ref.go:49", after := #[{ on := 2, ground := Go.Ground.data }], guard := none }) (v := .pointer (some ⟨T, 0, none⟩)) rfl (by kernel_rfl) (by kernel_rfl) (by kernel_rfl) (by kernel_rfl) (fun _ _ _ h => h) hS (Or.inl ⟨by rfl, fun w hSw => ?_⟩) ?_
              · go_split_ands
                go_simp
              try simp only [Act.put, List.setIfInBounds_toArray, List.set_cons_zero, List.set_cons_succ]
              refine wpAnyL_take0 (i := 12) (oi := { dst := some 65, op := Go.Op.fieldAddr 60 (Go.Operand.tmp 64) 3, type := 0, pos := "ref.go:49", after := #[{ on := 11, ground := Go.Ground.data }], guard := none }) (v := .pointer (some ⟨T, 34, none⟩)) rfl (by kernel_rfl) (by kernel_rfl) (by kernel_rfl) (by kernel_rfl) (fun _ _ _ h => h) hS (Or.inl ⟨by rfl, fun w hSw => ?_⟩) ?_
              · go_split_ands
                go_simp
              try simp only [Act.put, List.setIfInBounds_toArray, List.set_cons_zero, List.set_cons_succ]
              refine wpAnyL_ready (rs := [9]) (by kernel_rfl) (by simp) ?_
              refine AllReadyL.cons (o := { dst := some 63, op := Go.Op.indexAddr 56 (Go.Operand.tmp 62) (Go.Operand.tmp 55), type := 0, pos := "ref.go:49", after := #[{ on := 8, ground := Go.Ground.data }, { on := 1, ground := Go.Ground.data }, { on := 0, ground := Go.Ground.phase }, { on := 1, ground := Go.Ground.phase }, { on := 2, ground := Go.Ground.textOnly Go.Departure.lateStores }, { on := 3, ground := Go.Ground.textOnly Go.Departure.lateStores }, { on := 4, ground := Go.Ground.textOnly Go.Departure.lateStores }, { on := 5, ground := Go.Ground.textOnly Go.Departure.lateStoresUnsure }, { on := 6, ground := Go.Ground.phase }], guard := none }) rfl (fun K hK => ?_) AllReadyL.nil
              go_simp
              refine hK.out _ _ (fun _ => hS) ?_
              clear hK K
              try simp only [Act.put, List.setIfInBounds_toArray, List.set_cons_zero, List.set_cons_succ]
              refine wpAnyL_ready (rs := [10]) (by kernel_rfl) (by simp) ?_
              refine AllReadyL.cons (o := { dst := none, op := Go.Op.store 3 (Go.Operand.tmp 63) (Go.Operand.const (Go.Value.int Go.IntKind.i64 1)), type := 0, pos := "ref.go:49", after := #[{ on := 9, ground := Go.Ground.data }, { on := 0, ground := Go.Ground.phase }, { on := 1, ground := Go.Ground.phase }, { on := 2, ground := Go.Ground.textOnly Go.Departure.lateStores }, { on := 3, ground := Go.Ground.textOnly Go.Departure.lateStores }, { on := 4, ground := Go.Ground.textOnly Go.Departure.lateStores }, { on := 5, ground := Go.Ground.textOnly Go.Departure.lateStoresUnsure }, { on := 6, ground := Go.Ground.phase }], guard := none }) rfl (fun K hK => ?_) AllReadyL.nil
              go_simp
              refine hK.out _ _ (late_no (by kernel_rfl)) ?_
              clear hK K
              try simp only [Act.put, List.setIfInBounds_toArray, List.set_cons_zero, List.set_cons_succ]
              refine wpAnyL_ready (rs := [13]) (by kernel_rfl) (by simp) ?_
              refine AllReadyL.cons (o := { dst := some 66, op := Go.Op.indexAddr 57 (Go.Operand.tmp 65) (Go.Operand.tmp 57), type := 0, pos := "ref.go:49", after := #[{ on := 12, ground := Go.Ground.data }, { on := 3, ground := Go.Ground.data }, { on := 0, ground := Go.Ground.phase }, { on := 1, ground := Go.Ground.phase }, { on := 2, ground := Go.Ground.phase }, { on := 3, ground := Go.Ground.phase }, { on := 4, ground := Go.Ground.phase }, { on := 5, ground := Go.Ground.phase }, { on := 6, ground := Go.Ground.phase }, { on := 7, ground := Go.Ground.phase }, { on := 8, ground := Go.Ground.phase }, { on := 9, ground := Go.Ground.phase }, { on := 10, ground := Go.Ground.phase }], guard := none }) rfl (fun K hK => ?_) AllReadyL.nil
              go_simp
              refine hK.out _ _ (late_no (by kernel_rfl)) ?_
              clear hK K
              try simp only [Act.put, List.setIfInBounds_toArray, List.set_cons_zero, List.set_cons_succ]
              refine wpAnyL_ready (rs := [14]) (by kernel_rfl) (by simp) ?_
              refine AllReadyL.cons (o := { dst := none, op := Go.Op.store 55 (Go.Operand.tmp 66) (Go.Operand.tmp 60), type := 0, pos := "ref.go:49", after := #[{ on := 13, ground := Go.Ground.data }, { on := 6, ground := Go.Ground.data }, { on := 10, ground := Go.Ground.chain }, { on := 0, ground := Go.Ground.phase }, { on := 1, ground := Go.Ground.phase }, { on := 2, ground := Go.Ground.phase }, { on := 3, ground := Go.Ground.phase }, { on := 4, ground := Go.Ground.phase }, { on := 5, ground := Go.Ground.phase }, { on := 6, ground := Go.Ground.phase }, { on := 7, ground := Go.Ground.phase }, { on := 8, ground := Go.Ground.phase }, { on := 9, ground := Go.Ground.phase }, { on := 10, ground := Go.Ground.phase }], guard := none }) rfl (fun K hK => ?_) AllReadyL.nil
              go_simp
              refine hK.out _ _ (late_no (by kernel_rfl)) ?_
              clear hK K
              try simp only [Act.put, List.setIfInBounds_toArray, List.set_cons_zero, List.set_cons_succ]
              refine wpAnyL_done (by kernel_rfl) ?_ _
              clear z2 y2 z3 y3 z4 y4 d0 d1 hS
              have hdr := (Below.refl (((wr.setCell ⟨T, 2 + ci, none⟩ (.int .i64 1)).setCell ⟨T, 34 + ci * 2, none⟩ (.string p.1)).setCell ⟨T, 34 + ci * 2 + 1, none⟩ (.string p.2)).heap.size (((wr.setCell ⟨T, 2 + ci, none⟩ (.int .i64 1)).setCell ⟨T, 34 + ci * 2, none⟩ (.string p.1)).setCell ⟨T, 34 + ci * 2 + 1, none⟩ (.string p.2))).drew
              have hO3 := HO2.out.below hdr
              have hB3 := HBw2.out.drew
              clear hdr HO2 HBw2
              generalize (((wr.setCell ⟨T, 2 + ci, none⟩ (.int .i64 1)).setCell ⟨T, 34 + ci * 2, none⟩ (.string p.1)).setCell ⟨T, 34 + ci * 2 + 1, none⟩ (.string p.2)).drew = W9 at *
              go_wp2_with fail
              exact ⟨⟨ci + 1, f', by omega, by go_num, hO3, hB3⟩, by simp [intOf]; omega⟩

            · have hq2 : 2 ≤ (sub H l ci xs).length := by omega
              obtain ⟨A9, c9, rfl, hR9⟩ := hO9.rd
              have hA9 : ∀ a, A9 = some a → ¬ (N a.block ∨ a.block = T) := fun a ha hx => by
                have h1 := own_ge hO9 a.block (by rw [ha]; rfl)
                have h2 := HOf.out.rb.lt
                rcases hx with hx | hx
                · have h3 := HN0.out _ hx
                  have h4 := HB.out.size
                  omega
                · omega
              have hN' : ∀ x, (N x ∨ x = T) → x < wr.heap.size := fun x hx => by
                have h2 := hO.rb.lt
                rcases hx with hx | rfl
                · exact Nat.lt_of_lt_of_le (HN0.out _ hx) hBw.size
                · exact h2
              have kc := fun w' (hw : Below wr.heap.size wr w') => HIH.out (fun x => N x ∨ x = T) A9 c9 (sub H l ci xs) Wc.heap.size u10 w' (hR9.below hw) hA9 (fun x hx => Nat.lt_of_lt_of_le (hN' x hx) hw.size) hql (hO10.below hw)
              have HMO := Lib.hid (fun w' kb (hw : OfR H N n l xs T ci f w') hk => OfR.morePairs (kb := kb) hw hlt hq2 hk)
              have G1 : ¬ (((sub H l ci xs).length : Int) = 1) := by omega
              have G2 : (1 : Int) < ((sub H l ci xs).length : Int) := by omega
              have G3 : IntKind.i64.wrap ((l : Int) + 1) = ((l + 1 : Nat) : Int) := by rw [IntWalk.i64_in _ (by omega)]; omega
              have HO := Lib.hid hO
              have HBw := Lib.hid hBw
              clear hO9 hR9 hA9 hN' hO HOf HB hBw hBi h1 h0 hql hq2 hO10
              obtain ⟨Q, hQ⟩ : ∃ Q, Q = sub H l ci xs := ⟨_, rfl⟩
              rw [← hQ] at kc HMO G1 G2 ⊢
              obtain ⟨QL, hQL⟩ : ∃ QL, QL = Q.length := ⟨_, rfl⟩
              rw [← hQL] at kc G1 G2 ⊢
              clear hQ hQL
              go_upto_region 18 with (fail)
              refine wp_region_late (S := fun w' => True) (st := 12) (by kernel_rfl) ?_
              have hS : True := trivial
              refine wpAnyL_take0 (i := 0) (oi := { dst := some 70, op := Go.Op.move (Go.Operand.tmp 7), type := 37, pos := "ref.go:52", after := #[], guard := none }) (v := .pointer (some ⟨T, 0, none⟩)) rfl (by kernel_rfl) (by kernel_rfl) (by kernel_rfl) (by kernel_rfl) (fun _ _ _ h => h) hS (Or.inl ⟨by rfl, fun w hSw => ?_⟩) ?_
              · go_split_ands
                go_simp
              try simp only [Act.put, List.setIfInBounds_toArray, List.set_cons_zero, List.set_cons_succ]
              refine wpAnyL_take0 (i := 1) (oi := { dst := some 71, op := Go.Op.move (Go.Operand.tmp 8), type := 3, pos := "ref.go:52", after := #[], guard := none }) (v := .int .i64 ci) rfl (by kernel_rfl) (by kernel_rfl) (by kernel_rfl) (by kernel_rfl) (fun _ _ _ h => h) hS (Or.inl ⟨by rfl, fun w hSw => ?_⟩) ?_
              · go_split_ands
                go_simp
              try simp only [Act.put, List.setIfInBounds_toArray, List.set_cons_zero, List.set_cons_succ]
              refine wpAnyL_take0 (i := 2) (oi := { dst := some 72, op := Go.Op.move (Go.Operand.tmp 7), type := 37, pos := "ref.go:52", after := #[{ on := 12, ground := Go.Ground.gcOnly Go.Departure.lateStores }], guard := none }) (v := .pointer (some ⟨T, 0, none⟩)) rfl (by kernel_rfl) (by kernel_rfl) (by kernel_rfl) (by kernel_rfl) (fun _ _ _ h => h) hS (Or.inl ⟨by rfl, fun w hSw => ?_⟩) ?_
              · go_split_ands
                go_simp
              try simp only [Act.put, List.setIfInBounds_toArray, List.set_cons_zero, List.set_cons_succ]
              refine wpAnyL_take0 (i := 3) (oi := { dst := some 73, op := Go.Op.move (Go.Operand.tmp 8), type := 3, pos := "ref.go:52", after := #[{ on := 12, ground := Go.Ground.gcOnly Go.Departure.lateStores }], guard := none }) (v := .int .i64 ci) rfl (by kernel_rfl) (by kernel_rfl) (by kernel_rfl) (by kernel_rfl) (fun _ _ _ h => h) hS (Or.inl ⟨by rfl, fun w hSw => ?_⟩) ?_
              · go_split_ands
                go_simp
              try simp only [Act.put, List.setIfInBounds_toArray, List.set_cons_zero, List.set_cons_succ]
              refine wpAnyL_take0 (i := 4) (oi := { dst := some 74, op := Go.Op.move (Go.Operand.tmp 9), type := 30, pos := "ref.go:52", after := #[], guard := none }) (v := .slice A9 QL c9) rfl (by kernel_rfl) (by kernel_rfl) (by kernel_rfl) (by kernel_rfl) (fun _ _ _ h => h) hS (Or.inl ⟨by rfl, fun w hSw => ?_⟩) ?_
              · go_split_ands
                go_simp
              try simp only [Act.put, List.setIfInBounds_toArray, List.set_cons_zero, List.set_cons_succ]
              refine wpAnyL_take0 (i := 5) (oi := { dst := some 75, op := Go.Op.move (Go.Operand.tmp 10), type := 83, pos := "ref.go:52", after := #[], guard := none }) (v := u10) rfl (by kernel_rfl) (by kernel_rfl) (by kernel_rfl) (by kernel_rfl) (fun _ _ _ h => h) hS (Or.inl ⟨by rfl, fun w hSw => ?_⟩) ?_
              · go_split_ands
                go_simp
              try simp only [Act.put, List.setIfInBounds_toArray, List.set_cons_zero, List.set_cons_succ]
              refine wpAnyL_take0 (i := 6) (oi := { dst := some 76, op := Go.Op.move (Go.Operand.tmp 2), type := 3, pos := "ref.go:52", after := #[], guard := none }) (v := .int .i64 l) rfl (by kernel_rfl) (by kernel_rfl) (by kernel_rfl) (by kernel_rfl) (fun _ _ _ h => h) hS (Or.inl ⟨by rfl, fun w hSw => ?_⟩) ?_
              · go_split_ands
                go_simp
              try simp only [Act.put, List.setIfInBounds_toArray, List.set_cons_zero, List.set_cons_succ]
              refine wpAnyL_take0 (i := 7) (oi := { dst := some 77, op := Go.Op.binOp Go.BinOp.add 3 (Go.Operand.tmp 76) (Go.Operand.const (Go.Value.int Go.IntKind.i64 1)) 3, type := 3, pos := "ref.go:52", after := #[{ on := 6, ground := Go.Ground.data }], guard := none }) (v := .int .i64 (l + 1 : Nat)) rfl (by kernel_rfl) (by kernel_rfl) (by kernel_rfl) (by kernel_rfl) (fun _ _ _ h => h) hS (Or.inl ⟨by rfl, fun w hSw => ?_⟩) ?_
              · go_split_ands
                go_simp
              try simp only [Act.put, List.setIfInBounds_toArray, List.set_cons_zero, List.set_cons_succ]
              refine wpAnyL_take0 (i := 9) (oi := { dst := some 79, op := Go.Op.nilCheck (Go.Operand.tmp 70), type := 0, pos := "ref.go:52", after := #[{ on := 0, ground := Go.Ground.data }], guard := none }) (v := .pointer (some ⟨T, 0, none⟩)) rfl (by kernel_rfl) (by kernel_rfl) (by kernel_rfl) (by kernel_rfl) (fun _ _ _ h => h) hS (Or.inl ⟨by rfl, fun w hSw => ?_⟩) ?_
              · go_split_ands
                go_simp
              try simp only [Act.put, List.setIfInBounds_toArray, List.set_cons_zero, List.set_cons_succ]
              refine wpAnyL_take0 (i := 10) (oi := { dst := some 80, op := Go.Op.fieldAddr 60 (Go.Operand.tmp 79) 2, type := 0, pos := "ref.go:52", after := #[{ on := 9, ground := Go.Ground.data }], guard := none }) (v := .pointer (some ⟨T, 2, none⟩)) rfl (by kernel_rfl) (by kernel_rfl) (by kernel_rfl) (by kernel_rfl) (fun _ _ _ h => h) hS (Or.inl ⟨by rfl, fun w hSw => ?_⟩) ?_
              · go_split_ands
                go_simp
              try simp only [Act.put, List.setIfInBounds_toArray, List.set_cons_zero, List.set_cons_succ]
              refine wpAnyL_take0 (i := 13) (oi := { dst := some 82, op := Go.Op.nilCheck (Go.Operand.tmp 72), type := 0, pos := "ref.go:52", after := #[{ on := 2, ground := Go.Ground.data }], guard := none }) (v := .pointer (some ⟨T, 0, none⟩)) rfl (by kernel_rfl) (by kernel_rfl) (by kernel_rfl) (by kernel_rfl) (fun _ _ _ h => h) hS (Or.inl ⟨by rfl, fun w hSw => ?_⟩) ?_
              · go_split_ands
                go_simp
              try simp only [Act.put, List.setIfInBounds_toArray, List.set_cons_zero, List.set_cons_succ]
              refine wpAnyL_take0 (i := 14) (oi := { dst := some 83, op := Go.Op.fieldAddr 60 (Go.Operand.tmp 82) 4, type := 0, pos := "ref.go:52", after := #[{ on := 13, ground := Go.Ground.data }], guard := none }) (v := .pointer (some ⟨T, 98, none⟩)) rfl (by kernel_rfl) (by kernel_rfl) (by kernel_rfl) (by kernel_rfl) (fun _ _ _ h => h) hS (Or.inl ⟨by rfl, fun w hSw => ?_⟩) ?_
              · go_split_ands
                go_simp
              try simp only [Act.put, List.setIfInBounds_toArray, List.set_cons_zero, List.set_cons_succ]
              refine wpAnyL_ready (rs := [8]) (by kernel_rfl) (by simp) ?_
              refine AllReadyL.cons (o := { dst := some 78, op := Go.Op.call { callee := Go.Callee.value (Go.Operand.func 36), args := #[Go.Operand.tmp 74, Go.Operand.tmp 75, Go.Operand.tmp 77], argTypes := #[30, 83, 3] }, type := 37, pos := "ref.go:52", after := #[{ on := 4, ground := Go.Ground.data }, { on := 5, ground := Go.Ground.data }, { on := 7, ground := Go.Ground.data }], guard := none }) rfl (fun K hK => ?_) AllReadyL.nil
              go_simp
              have hdr : Below wr.heap.size wr wr.drew := (Below.refl _ wr).drew
              refine (kc _ hdr).mono ?_
              rintro e w1 ⟨kb, rfl, hkT, hB1⟩
              have hB1' : Below wr.heap.size wr w1 := hdr.trans hB1
              have hO1 := HO.out.below hB1'
              have hBw1 := HBw.out.trans (hB1'.mono HBw.out.size)
              obtain ⟨f', hO2⟩ := HMO.out w1 kb hO1 hkT
              have hRB := hO1.rb
              have z2 := hRB.cell (2 + ci) (by omega)
              have y2 := hRB.frozen (2 + ci)
              have z3 := hRB.cell (98 + ci) (by omega)
              have y3 := hRB.frozen (98 + ci)
              have hB2 : Below w.heap.size w ((w1.setCell ⟨T, 2 + ci, none⟩ (.int .i64 2)).setCell ⟨T, 98 + ci, none⟩ (.pointer (some ⟨kb, 0, none⟩))) := (hBw1.setCell (p := ⟨T, 2 + ci, none⟩) hTw _).setCell (p := ⟨T, 98 + ci, none⟩) hTw _
              have HO2 := Lib.hid hO2
              have HB2 := Lib.hid hB2
              clear hkT hB1 hB1' hO1 hBw1 hO2 hB2 hRB kc HO HMO HBw hdr
              go_wp2_with fail
              refine hK.out _ _ (fun _ => trivial) ?_
              clear hK K hS
              try simp only [Act.put, List.setIfInBounds_toArray, List.set_cons_zero, List.set_cons_succ]
              refine wpAnyL_ready (rs := [11]) (by kernel_rfl) (by simp) ?_
              refine AllReadyL.cons (o := { dst := some 81, op := Go.Op.indexAddr 56 (Go.Operand.tmp 80) (Go.Operand.tmp 71), type := 0, pos := "ref.go:52", after := #[{ on := 10, ground := Go.Ground.data }, { on := 1, ground := Go.Ground.data }, { on := 0, ground := Go.Ground.phase }, { on := 1, ground := Go.Ground.phase }, { on := 2, ground := Go.Ground.textOnly Go.Departure.lateStores }, { on := 3, ground := Go.Ground.textOnly Go.Departure.lateStores }, { on := 4, ground := Go.Ground.textOnly Go.Departure.lateStores }, { on := 5, ground := Go.Ground.textOnly Go.Departure.lateStores }, { on := 6, ground := Go.Ground.textOnly Go.Departure.lateStores }, { on := 7, ground := Go.Ground.textOnly Go.Departure.lateStores }, { on := 8, ground := Go.Ground.phase }], guard := none }) rfl (fun K hK => ?_) AllReadyL.nil
              go_simp
              refine hK.out _ _ (fun _ => trivial) ?_
              clear hK K
              try simp only [Act.put, List.setIfInBounds_toArray, List.set_cons_zero, List.set_cons_succ]
              refine wpAnyL_ready (rs := [12]) (by kernel_rfl) (by simp) ?_
              refine AllReadyL.cons (o := { dst := none, op := Go.Op.store 3 (Go.Operand.tmp 81) (Go.Operand.const (Go.Value.int Go.IntKind.i64 2)), type := 0, pos := "ref.go:52", after := #[{ on := 11, ground := Go.Ground.data }, { on := 8, ground := Go.Ground.chain }, { on := 0, ground := Go.Ground.phase }, { on := 1, ground := Go.Ground.phase }, { on := 2, ground := Go.Ground.textOnly Go.Departure.lateStores }, { on := 3, ground := Go.Ground.textOnly Go.Departure.lateStores }, { on := 4, ground := Go.Ground.textOnly Go.Departure.lateStores }, { on := 5, ground := Go.Ground.textOnly Go.Departure.lateStores }, { on := 6, ground := Go.Ground.textOnly Go.Departure.lateStores }, { on := 7, ground := Go.Ground.textOnly Go.Departure.lateStores }, { on := 8, ground := Go.Ground.phase }], guard := none }) rfl (fun K hK => ?_) AllReadyL.nil
              go_simp
              refine hK.out _ _ (late_no (by kernel_rfl)) ?_
              clear hK K
              try simp only [Act.put, List.setIfInBounds_toArray, List.set_cons_zero, List.set_cons_succ]
              refine wpAnyL_ready (rs := [15]) (by kernel_rfl) (by simp) ?_
              refine AllReadyL.cons (o := { dst := some 84, op := Go.Op.indexAddr 58 (Go.Operand.tmp 83) (Go.Operand.tmp 73), type := 0, pos := "ref.go:52", after := #[{ on := 14, ground := Go.Ground.data }, { on := 3, ground := Go.Ground.data }, { on := 0, ground := Go.Ground.phase }, { on := 1, ground := Go.Ground.phase }, { on := 2, ground := Go.Ground.phase }, { on := 3, ground := Go.Ground.phase }, { on := 4, ground := Go.Ground.phase }, { on := 5, ground := Go.Ground.phase }, { on := 6, ground := Go.Ground.phase }, { on := 7, ground := Go.Ground.phase }, { on := 8, ground := Go.Ground.phase }, { on := 9, ground := Go.Ground.phase }, { on := 10, ground := Go.Ground.phase }, { on := 11, ground := Go.Ground.phase }, { on := 12, ground := Go.Ground.phase }], guard := none }) rfl (fun K hK => ?_) AllReadyL.nil
              go_simp
              refine hK.out _ _ (late_no (by kernel_rfl)) ?_
              clear hK K
              try simp only [Act.put, List.setIfInBounds_toArray, List.set_cons_zero, List.set_cons_succ]
              refine wpAnyL_ready (rs := [16]) (by kernel_rfl) (by simp) ?_
              refine AllReadyL.cons (o := { dst := none, op := Go.Op.store 37 (Go.Operand.tmp 84) (Go.Operand.tmp 78), type := 0, pos := "ref.go:52", after := #[{ on := 15, ground := Go.Ground.data }, { on := 8, ground := Go.Ground.data }, { on := 12, ground := Go.Ground.chain }, { on := 0, ground := Go.Ground.phase }, { on := 1, ground := Go.Ground.phase }, { on := 2, ground := Go.Ground.phase }, { on := 3, ground := Go.Ground.phase }, { on := 4, ground := Go.Ground.phase }, { on := 5, ground := Go.Ground.phase }, { on := 6, ground := Go.Ground.phase }, { on := 7, ground := Go.Ground.phase }, { on := 8, ground := Go.Ground.phase }, { on := 9, ground := Go.Ground.phase }, { on := 10, ground := Go.Ground.phase }, { on := 11, ground := Go.Ground.phase }, { on := 12, ground := Go.Ground.phase }], guard := none }) rfl (fun K hK => ?_) AllReadyL.nil
              go_simp
              refine hK.out _ _ (late_no (by kernel_rfl)) ?_
              clear hK K
              try simp only [Act.put, List.setIfInBounds_toArray, List.set_cons_zero, List.set_cons_succ]
              refine wpAnyL_done (by kernel_rfl) ?_ _
              clear z2 y2 z3 y3
              generalize (w1.setCell ⟨T, 2 + ci, none⟩ (.int .i64 2)).setCell ⟨T, 98 + ci, none⟩ (.pointer (some ⟨kb, 0, none⟩)) = W9 at *
              go_wp2_with fail
              exact ⟨⟨ci + 1, f', by omega, by go_num, HO2.out, HB2.out⟩, by simp [intOf]; omega⟩

    · obtain rfl : ci = 32 := by omega
      clear hlt
      have hRB := hOf.rb
      have hfin : TrieR H N wr (n + 1) l T xs := ⟨f, hOf.rb, fun h => by have := HN0.out _ h; have := HTw.out; omega, hOf.f0, fun c hc => (hOf.done c hc).mono fun k hk => TrieR.less (fun x hx => .inl hx) _ _ _ _ hk⟩
      clear hOf
      go_wp2_with fail
      go_ret
      exact ⟨T, rfl, hfin, hB⟩
/-- the reference's trie of any pairs -/
theorem of_any (H : ByteArray → Nat) (hH : ∀ k, H k < 18446744073709551616) : ∀ (n l : Nat) (hl : n + l = 13) (N : Nat → Prop) (A : Option Addr) (c : Nat) (xs : List Pr) (bs : Nat) (v : Value) (w : World), Rd w A xs → (∀ a, A = some a → ¬ N a.block) → (∀ x, N x → x < w.heap.size) → xs.length ≤ 700 → OwnU bs w v (xs.map fun p => H p.1) → Calls Tryz.prog 36 #[.slice A xs.length c, v, .int .i64 l] w (OfPost H N n l xs w)
  | 0, l, hl, N, A, c, xs, bs, v, w, hR, hA, hN, hn, hU => by
    obtain rfl : l = 13 := by omega
    exact of_zero H N A c xs v w hR hA hN
  | n + 1, l, hl, N, A, c, xs, bs, v, w, hR, hA, hN, hn, hU =>
    of_succ H hH n l hl (fun N A c xs bs v w h1 h2 h3 h4 h5 => of_any H hH n (l + 1) (by omega) N A c xs bs v w h1 h2 h3 h4 h5) N A c xs bs v w hR hN hn hU

end Go.Proofs.YtchimfgbdfmegaaGreat
