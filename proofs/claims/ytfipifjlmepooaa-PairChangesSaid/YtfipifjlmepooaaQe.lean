/- The reference's Sorted. -/
import Derived.Test.YtfipifjlmepooaaQd
namespace Go.Proofs.Ytfipifjlmepooaa
open Go.RowKit Go.Lib
set_option linter.unusedVariables false
set_option linter.unusedSimpArgs false
theorem sized_mem {L : List Pr} (h : ∀ x ∈ L, x.1.size ≤ maxLen) : Sized L := by
  intro j
  by_cases hj : j < L.length
  · have hm : pat L j ∈ L := by unfold pat; rw [List.getElem?_eq_getElem hj]; exact List.getElem_mem _
    exact h _ hm
  · unfold pat
    rw [List.getElem?_eq_none (by omega)]
    simp [maxLen]
theorem mem_sized {L : List Pr} (h : Sized L) : ∀ x ∈ L, x.1.size ≤ maxLen := by
  intro x hx
  obtain ⟨i, hi, e⟩ := List.getElem_of_mem hx
  have := h i
  unfold pat at this
  rw [List.getElem?_eq_getElem hi] at this
  simpa [e] using this
theorem insK_length (p : Pr) (D : List Pr) : (insK p D).length = D.length + 1 := by
  induction D with
  | nil => rfl
  | cons q r ih => unfold insK; split <;> simp [ih]
theorem putK_length (xs : List Pr) (p : Pr) : (putK xs p).length ≤ xs.length + 1 := by
  unfold putK
  rw [insK_length]
  have : (dropK xs p.1).length ≤ xs.length := List.length_filter_le _ _
  omega
theorem sized_put {xs : List Pr} {p : Pr} (h : Sized xs) (hp : p.1.size ≤ maxLen) : Sized (putK xs p) := by
  refine sized_mem fun x hx => ?_
  unfold putK at hx
  rcases (ins_mem p x _).1 hx with rfl | hx
  · exact hp
  · exact mem_sized h x ((drop_mem xs p.1 x).1 hx).1
theorem take_pat (xs : List Pr) (j : Nat) (h : j < xs.length) : xs.take (j + 1) = xs.take j ++ [pat xs j] := by
  rw [List.take_succ_eq_append_getElem h]
  simp [pat, h]
set_option maxRecDepth 100000 in
set_option maxHeartbeats 4000000 in
theorem refSorted_any (A : Option Addr) (c : Nat) (xs : List Pr) (w : World) (hR : Rd w A xs) (hn : xs.length ≤ 800) (hz : Sized xs) :
    Calls Try.prog 18 #[.slice A xs.length c] w fun e w' => ∃ v R, e = .returned v ∧ OwnR w.heap.size w' v R ∧ IsNorm xs R ∧ Below w.heap.size w w' := by
  obtain ⟨n, hxs⟩ : ∃ n, n = xs.length := ⟨_, rfl⟩
  rw [← hxs] at hn ⊢
  have HX := Lib.hid hxs
  have HR := Lib.hid hR
  have HZ := Lib.hid hz
  clear hxs hR hz
  go_enter Try.func18, Try.ntmps18
  go_wp2_with fail
  go_loopw [3, 8] (fun v i wr => ∃ (j : Nat) (R : List Pr), j ≤ n ∧ i = .int .i64 j ∧ Hid (IsNorm (xs.take j) R) ∧ Hid (Sized R) ∧ R.length ≤ j ∧ OwnR w.heap.size wr v R ∧ Below w.heap.size w wr) (fun v i wr => n - (intOf i).toNat)
  case atStart => exact ⟨0, [], by omega, rfl, Lib.hid (by simpa using norm_nil), Lib.hid (sized_mem (by simp)), by simp, World.ownsRow_nil _ _ _ _, Below.refl _ _⟩
  case round =>
    obtain ⟨j, R, hj, rfl, hN, hS, hl, hO, hB⟩ := hrel
    by_cases hlt : j < n
    · have hjX : j < xs.length := by rw [← HX.out]; exact hlt
      obtain ⟨g, off, rfl, c0, c1⟩ := (HR.out.below hB).at j hjX
      have HT := Lib.hid (take_pat xs j hjX)
      obtain ⟨B, cB, rfl, hRd⟩ := hO.rd
      have hb2 : Below w.heap.size w (wr.alloc (.cells #[.string (pat xs j).1, .string (pat xs j).2] 40)) := hB.alloc hB.size _
      have hb1 : Below wr.heap.size wr (wr.alloc (.cells #[.string (pat xs j).1, .string (pat xs j).2] 40)) := (Below.refl _ wr).alloc (Nat.le_refl _) _
      have hRd2 := hRd.below hb1
      have hbx := Blk.new wr 40 #[.string (pat xs j).1, .string (pat xs j).2]
      clear hRd hO hB hb1
      go_upto_region 5 with (fail)
      generalize wr.alloc (.cells #[.string (pat xs j).1, .string (pat xs j).2] 40) = W at *
      generalize wr.heap.size = Bx at *
      have b0 : W.cell? ⟨Bx, 0, none⟩ = some (.string (pat xs j).1) := hbx.cell 0
      have b1 : W.cell? ⟨Bx, 1, none⟩ = some (.string (pat xs j).2) := hbx.cell 1
      clear hbx c0 c1
      go_wp2_with fail
      refine (refPut_any B cB R (pat xs j) W hRd2 (by omega) hS.out (HZ.out j)).mono ?_
      rintro e w2 ⟨v2, rfl, hO2, hB2⟩
      have hB3 := hb2.trans (hB2.mono hb2.size)
      have hO3 := hO2.base hb2.size
      have hl2 := putK_length R (pat xs j)
      clear hO2 hB2 hb2 hRd2 b0 b1
      go_wp2_with fail
      exact ⟨⟨j + 1, putK R (pat xs j), by omega, by go_num, Lib.hid (by rw [HT.out]; exact norm_put _ hN.out), Lib.hid (sized_put hS.out (HZ.out j)), by omega, hO3, hB3⟩, by simp [intOf]; omega⟩
    · go_wp2_with fail
      go_ret
      have hN' := hN.out
      rw [List.take_of_length_le (by rw [← HX.out]; omega)] at hN'
      exact ⟨_, R, rfl, hO, hN', hB⟩
end Go.Proofs.Ytfipifjlmepooaa
