/- Sorted, of lists of a length at which the stable sort does what it should. -/
import Derived.Test.YtfipifjlmepooaaPc
import Derived.Deep.QuietTactic
import Derived.BigQuiet
import Derived.Laws.Strings
namespace Go.Proofs.Ytfipifjlmepooaa
open Go.RowKit Go.Lib
set_option linter.unusedVariables false
set_option linter.unusedSimpArgs false


theorem kat_drop (ys : List Pr) (j : Nat) : kat (ys.drop j) 0 = kat ys j := by simp [kat, pat]
theorem dd_step (ys : List Pr) (j : Nat) (h : j < ys.length) : dd (ys.drop j) = (if j + 1 = ys.length ∨ kat ys (j + 1) ≠ kat ys j then [pat ys j] else []) ++ dd (ys.drop (j + 1)) := by
  have e : ys.drop j = pat ys j :: ys.drop (j + 1) := by
    rw [List.drop_eq_getElem_cons h]
    simp [pat, h]
  rw [e, dd_cons, kat_drop]
  congr 1
  have : (ys.drop (j + 1) = []) ↔ j + 1 = ys.length := by
    rw [List.drop_eq_nil_iff]; omega
  simp only [this]
  rfl

theorem cell_two_new (w : World) (x y : Value) (t : TypeId) : ∀ j u, [x, y][j]? = some u → (w.alloc (.cells #[x, y] t)).cell? ((⟨w.heap.size, 0, none⟩ : Addr).add j) = some u := by
  intro j u h
  rw [addr_add, Nat.zero_add, (Blk.new w t #[x, y]).cell j]
  simpa using h
theorem flat_snoc (R : List Pr) (p : Pr) : flat (R ++ [p]) = flat R ++ [.string p.1, .string p.2] := by simp [flat]
theorem flat_cell (p : Pr) : ∀ u ∈ [Value.string p.1, Value.string p.2], u.oneCell' = true := by simp [Value.oneCell']
/-- one pair more behind a list of one's own -/
theorem Own.snoc {base : Nat} {w : World} {v : Value} {R : List Pr} {p : Pr} (h : w.ownsRow base 33 2 v (R.length + 1) (flat R ++ [.string p.1, .string p.2])) : Own base w v (R ++ [p]) := by
  unfold Own
  rw [flat_snoc, List.length_append]
  exact h

set_option maxRecDepth 100000 in
set_option maxHeartbeats 8000000 in
theorem sorted_of (n : Nat) (hs : SortsAt n) (g off c : Nat) (xs : List Pr) (w : World) (hR : Rd w (some ⟨g, off, none⟩) xs) (hxs : xs.length = n) (hn : n ≤ 1000) :
    Calls Try.prog 15 #[.slice (some ⟨g, off, none⟩) n c] w fun e w' => ∃ v R, e = .returned v ∧ Own w.heap.size w' v R ∧ IsNorm xs R ∧ Below w.heap.size w w' := by
  obtain ⟨i0, hi, hz0, hz1, hz2⟩ := info_parts info33
  go_enter Try.func15, Try.ntmps15
  go_wp2_with fail
  subst hxs
  refine (clone_any g off c xs w hR hn).mono ?_
  rintro e w1 ⟨ga, ca, rfl, hO1, hB1⟩
  obtain ⟨n, hxs⟩ : ∃ n, n = xs.length := ⟨_, rfl⟩
  rw [← hxs] at hs hn hO1 ⊢
  have HX := Lib.hid hxs
  clear hxs hR
  go_wp2_with fail
  refine (sortStable n hs w.heap.size ga ca xs w1 HX.out.symm hO1).mono ?_
  rintro e w2 ⟨rfl, ys, hO2, hl, hSt, -, hSrt, hK⟩
  rw [← HX.out] at hO2 hl
  have gge : w.heap.size ≤ ga := own_ge hO1 ga rfl
  have hB2 : Below w.heap.size w w2 := hB1.trans (hK.below hB1.size (by simp; exact gge))
  have HL := Lib.hid hl
  have HS := Lib.hid hSt
  have HSr := Lib.hid hSrt
  clear hO1 hB1 hK hl hSt hSrt hs
  go_wp2_with fail
  go_loopw [4, 13] (fun v i wr => ∃ (j : Nat) (R : List Pr), j ≤ n ∧ i = .int .i64 j ∧ Hid (R ++ dd (ys.drop j) = dd ys) ∧ Hid (R.length ≤ j) ∧ Own w.heap.size wr v R ∧ Own w.heap.size wr (.slice (some ⟨ga, 0, none⟩) n ca) ys ∧ Hid (v.ownBlock ≠ some ga) ∧ Below w.heap.size w wr) (fun v i wr => n - (intOf i).toNat)
  case atStart => exact ⟨0, [], by omega, rfl, Lib.hid rfl, Lib.hid (by simp), World.ownsRow_nil _ _ _ _, hO2, Lib.hid (by simp [Value.ownBlock]), hB2⟩
  case round =>
    clear hO2 hB2
    obtain ⟨j, R, hj, rfl, hR, hRl, hO, hA, hne, hB⟩ := hrel
    by_cases hlt : j < n
    · have hlen := HL.out
      obtain ⟨c0, c1, f0, f1⟩ := hA.two j (by omega)
      have hds := Lib.hid (dd_step ys j (by omega))
      obtain ⟨J, hJ⟩ : ∃ J, J = j + 1 := ⟨_, rfl⟩
      have F1 : IntKind.i64.wrap ((j : Int) + 1) = (J : Int) := by rw [IntWalk.i64_in _ (by omega)]; omega
      have HJ := Lib.hid hJ
      clear hJ f0 f1
      go_upto_region 7 with (fail)
      have hbox := Blk.new wr 33 #[.string (pat ys j).1, .string (pat ys j).2]
      have hO3 : Own w.heap.size (wr.alloc (.cells #[.string (pat ys j).1, .string (pat ys j).2] 33)) u4 R := World.ownsRow.alloc hO _
      have hA3 : Own w.heap.size (wr.alloc (.cells #[.string (pat ys j).1, .string (pat ys j).2] 33)) (.slice (some ⟨ga, 0, none⟩) n ca) ys := World.ownsRow.alloc hA _
      have hB3 := hB.alloc hB.size (.cells #[.string (pat ys j).1, .string (pat ys j).2] 33)
      generalize wr.alloc (.cells #[.string (pat ys j).1, .string (pat ys j).2] 33) = W at *
      generalize wr.heap.size = Bx at *
      have b0 : W.cell? ⟨Bx, 0, none⟩ = some (.string (pat ys j).1) := hbox.cell 0
      have b1 : W.cell? ⟨Bx, 1, none⟩ = some (.string (pat ys j).2) := hbox.cell 1
      clear hO hA hB c0 c1 hbox
      by_cases hJn : J = n
      · have F2 : ((J : Int) == (n : Int)) = true := by rw [beq_iff_eq]; omega
        have HJn := Lib.hid hJn
        clear hJn
        go_wp2_with fail
        go_quiet (fail)
        generalize hWd : W.drewN nq = Wd
        have hO4 : Own w.heap.size Wd u4 R := by rw [← hWd]; exact hO3
        have hA4 : Own w.heap.size Wd (.slice (some ⟨ga, 0, none⟩) n ca) ys := by rw [← hWd]; exact hA3
        have hB4 : Below w.heap.size w Wd := by rw [← hWd]; exact ⟨hB3.os, hB3.tape, hB3.output, hB3.size, hB3.block⟩
        have b0' : Wd.cell? ⟨Bx, 0, none⟩ = some (.string (pat ys j).1) := by rw [← hWd]; exact b0
        have b1' : Wd.cell? ⟨Bx, 1, none⟩ = some (.string (pat ys j).2) := by rw [← hWd]; exact b1
        clear hWd hO3 hA3 hB3 b0 b1
        have hRl' := hRl.out
        have hrow : Wd.ownsRow w.heap.size 33 2 u4 R.length (flat R) := hO4
        go_wp2_with (at_builtin; refine wpList_append_own_at _ rfl _ _ 22 rfl w.heap.size 33 i0 _ 2 32 Try.underlying22 hi hz0 hz1 hz2 rfl (by decide) _ _ _ rfl (hrow.alloc _) ⟨Wd.heap.size, 0, none⟩ 1 1 [.string (pat ys j).1, .string (pat ys j).2] rfl rfl (cell_two_new _ _ _ _) (flat_cell (pat ys j)) (by unfold maxLen; omega) (by omega) (by have := hB4.size; simp; omega) ?_; intro v' wa hown' hgrow hnil hloc)
        have hB5 : Below w.heap.size w wa := (hB4.alloc hB4.size _).grown hgrow (by have := hB4.size; simp; omega) (own_ge hO4)
        have hA5 : Own w.heap.size wa (.slice (some ⟨ga, 0, none⟩) n ca) ys := World.ownsRow.kept (World.ownsRow.alloc hA4 _) hgrow (.inr (Ne.symm hne.out))
        have hga := (World.ownsRow.lt hA4 ga rfl).2
        have hne' : v'.ownBlock ≠ some ga := by
          rcases hloc with h | h
          · rw [h]; exact hne.out
          · rw [h]; simp; omega
        have e1 := HJ.out
        subst e1
        refine ⟨⟨j + 1, R ++ [pat ys j], by omega, by go_num, Lib.hid ?_, Lib.hid (by simp; omega), Own.snoc hown', hA5, Lib.hid hne', hB5⟩, by simp [intOf]; omega⟩
        rw [← hR.out, hds.out, if_pos (.inl (by rw [HL.out]; exact HJn.out)), List.append_assoc]
      · have F2 : ((J : Int) == (n : Int)) = false := by rw [beq_eq_false_iff_ne]; omega
        have F3 : (J : Int) < (n : Int) := by have := HJ.out; omega
        obtain ⟨c0, c1, f0, f1⟩ := hA3.two J (by omega)
        have HJn := Lib.hid hJn
        clear hJn f0 f1
        by_cases hk : (pat ys J).1 = (pat ys j).1
        · have F5 : ((pat ys J).1.toList == (pat ys j).1.toList) = true := by rw [hk]; simp
          have HK := Lib.hid hk
          clear hk
          go_wp2_with fail
          go_quiet (fail)
          generalize hWd : W.drewN nq = Wd
          have hO4 : Own w.heap.size Wd u4 R := by rw [← hWd]; exact hO3
          have hA4 : Own w.heap.size Wd (.slice (some ⟨ga, 0, none⟩) n ca) ys := by rw [← hWd]; exact hA3
          have hB4 : Below w.heap.size w Wd := by rw [← hWd]; exact ⟨hB3.os, hB3.tape, hB3.output, hB3.size, hB3.block⟩
          clear hWd hO3 hA3 hB3 b0 b1 c0 c1 F5
          go_wp2_with fail
          have e1 := HJ.out
          subst e1
          refine ⟨⟨j + 1, R, by omega, by go_num, Lib.hid ?_, Lib.hid (by have := hRl.out; omega), hO4, hA4, hne, hB4⟩, by simp [intOf]; omega⟩
          rw [← hR.out, hds.out, if_neg]
          · simp
          · rintro (h | h)
            · rw [HL.out] at h; exact HJn.out h
            · exact h HK.out
        · have F5 : ((pat ys J).1.toList == (pat ys j).1.toList) = false := by rw [beq_eq_false_iff_ne]; intro h; exact hk (bytes_ext (by rw [ByteArray.toList_eq, ByteArray.toList_eq] at h; exact h))
          have HK := Lib.hid hk
          have HKn : Hid (kat ys (j + 1) ≠ kat ys j) := Lib.hid (by have e1 := HJ.out; subst e1; exact hk)
          clear hk c0 c1
          obtain ⟨c0, c1, -, -⟩ := hA3.two J (by omega)
          go_wp2_with fail
          go_quiet (fail)
          generalize hWd : W.drewN nq = Wd
          have hO4 : Own w.heap.size Wd u4 R := by rw [← hWd]; exact hO3
          have hA4 : Own w.heap.size Wd (.slice (some ⟨ga, 0, none⟩) n ca) ys := by rw [← hWd]; exact hA3
          have hB4 : Below w.heap.size w Wd := by rw [← hWd]; exact ⟨hB3.os, hB3.tape, hB3.output, hB3.size, hB3.block⟩
          have b0' : Wd.cell? ⟨Bx, 0, none⟩ = some (.string (pat ys j).1) := by rw [← hWd]; exact b0
          have b1' : Wd.cell? ⟨Bx, 1, none⟩ = some (.string (pat ys j).2) := by rw [← hWd]; exact b1
          clear hWd hO3 hA3 hB3 b0 b1
          have hRl' := hRl.out
          have hrow : Wd.ownsRow w.heap.size 33 2 u4 R.length (flat R) := hO4
          go_wp2_with (at_builtin; refine wpList_append_own_at _ rfl _ _ 22 rfl w.heap.size 33 i0 _ 2 32 Try.underlying22 hi hz0 hz1 hz2 rfl (by decide) _ _ _ rfl (hrow.alloc _) ⟨Wd.heap.size, 0, none⟩ 1 1 [.string (pat ys j).1, .string (pat ys j).2] rfl rfl (cell_two_new _ _ _ _) (flat_cell (pat ys j)) (by unfold maxLen; omega) (by omega) (by have := hB4.size; simp; omega) ?_; intro v' wa hown' hgrow hnil hloc)
          have hB5 : Below w.heap.size w wa := (hB4.alloc hB4.size _).grown hgrow (by have := hB4.size; simp; omega) (own_ge hO4)
          have hA5 : Own w.heap.size wa (.slice (some ⟨ga, 0, none⟩) n ca) ys := World.ownsRow.kept (World.ownsRow.alloc hA4 _) hgrow (.inr (Ne.symm hne.out))
          have hga := (World.ownsRow.lt hA4 ga rfl).2
          have hne' : v'.ownBlock ≠ some ga := by
            rcases hloc with h | h
            · rw [h]; exact hne.out
            · rw [h]; simp; omega
          have e1 := HJ.out
          subst e1
          refine ⟨⟨j + 1, R ++ [pat ys j], by omega, by go_num, Lib.hid ?_, Lib.hid (by simp; omega), Own.snoc hown', hA5, Lib.hid hne', hB5⟩, by simp [intOf]; omega⟩
          rw [← hR.out, hds.out, if_pos (.inr HKn.out), List.append_assoc]
    · go_wp2_with fail
      go_ret
      have hR' := hR.out
      rw [List.drop_of_length_le (by rw [HL.out]; omega)] at hR'
      simp [dd] at hR'
      refine ⟨_, dd ys, rfl, hR' ▸ hO, (dd_norm (pairwise_of_srt ?_)).stab HS.out, hB⟩
      rw [HL.out]; exact HSr.out
end Go.Proofs.Ytfipifjlmepooaa
