/- The empty trie; the law's own small functions. -/
import Derived.Test.YtfmbikmpobieoaaMJ
namespace Go.Proofs.Ytfmbikmpobieoaa
open Go.RowKit Go.Lib
set_option linter.unusedVariables false
set_option maxRecDepth 100000
set_option linter.unusedSimpArgs false
set_option maxRecDepth 100000
attribute [local irreducible] cnt
theorem empty_any (H : ByteArray → Nat) (base : Nat) (w : World) (hb : base ≤ w.heap.size) :
    Calls Try.prog 5 #[] w (RetB fun b w' => Trie H (fun _ => False) none false base w' 13 0 b [] (fun _ => False) ∧ Below w.heap.size w w') := by
  go_enter Try.func5, Try.ntmps5
  go_wp2_with fail
  refine (Inn.new w).mono ?_
  rintro e w1 ⟨b, rfl, -, hI, hB⟩
  unfold at0
  go_wp2_with fail
  go_ret
  exact ⟨b, rfl, ⟨none, _, _, false, _, fun _ _ => False, hI.base hb, ⟨TV.nil _, fun t e => by simp at e⟩, ⟨fun e => by simp [ownB] at e, fun _ => ⟨fun _ _ h => h, fun _ h => h, fun _ _ _ h => h⟩⟩, fun c hc => ⟨rfl, fun _ h => h⟩⟩, hB⟩
/-- at most forty bytes -/
def cut40 (s : ByteArray) : ByteArray := if 40 < s.size then s.extract 0 40 else s
theorem cut40_size (s : ByteArray) : (cut40 s).size ≤ 40 := by
  unfold cut40
  split
  · rw [ByteArray.size_extract]; omega
  · omega
def few40 (p : Pr) : Pr := (cut40 p.1, cut40 p.2)
set_option maxHeartbeats 2000000 in
theorem few_any (p : Pr) (w : World) : Calls Try.prog 7 #[.agg #[.string p.1, .string p.2]] w fun e w' => e = .returned (.agg #[.string (few40 p).1, .string (few40 p).2]) ∧ Below w.heap.size w w' := by
  have hB0 := ((Below.refl _ w).alloc (Nat.le_refl _) (.cells #[.string p.1, .string p.2] 32)).alloc (by simp) (.cells #[.string ⟨#[]⟩, .string ⟨#[]⟩] 32)
  have b1 := (Blk.new w 32 #[.string p.1, .string p.2]).alloc (.cells #[.string ⟨#[]⟩, .string ⟨#[]⟩] 32)
  have b2 := Blk.new (w.alloc (.cells #[.string p.1, .string p.2] 32)) 32 #[.string ⟨#[]⟩, .string ⟨#[]⟩]
  have e1 : (w.alloc (.cells #[.string p.1, .string p.2] 32)).heap.size = w.heap.size + 1 := by simp
  rw [e1] at b2
  clear e1
  unfold few40 cut40
  by_cases h1 : 40 < p.1.size <;> by_cases h2 : 40 < p.2.size
  · rw [if_pos h1, if_pos h2]
    have g1 : (40 : Int) < (p.1.size : Int) := by omega
    have g2 : (40 : Int) < (p.2.size : Int) := by omega
    go_enter Try.func7, Try.ntmps7
    go_upto_region 1 with (fail)
    generalize (w.alloc (.cells #[.string p.1, .string p.2] 32)).alloc (.cells #[.string ⟨#[]⟩, .string ⟨#[]⟩] 32) = W at *
    obtain ⟨N2, hN2⟩ : ∃ N2, N2 = w.heap.size + 1 := ⟨_, rfl⟩
    rw [← hN2] at b2 ⊢
    obtain ⟨N1, hN1⟩ : ∃ N1, N1 = w.heap.size := ⟨_, rfl⟩
    rw [← hN1] at b1 ⊢
    have n1 : ¬ (N1 = N2) := by omega
    have n2 : ¬ (N2 = N1) := by omega
    have l1 : w.heap.size ≤ N1 := by omega
    have l2 : w.heap.size ≤ N2 := by omega
    clear hN1 hN2
    have c0 : W.cell? ⟨N1, 0, none⟩ = some (.string p.1) := b1.cell 0
    have c1 : W.cell? ⟨N1, 1, none⟩ = some (.string p.2) := b1.cell 1
    have f0 := b1.frozen 0
    have f1 := b1.frozen 1
    have e0 : W.cell? ⟨N2, 0, none⟩ = some (.string ⟨#[]⟩) := b2.cell 0
    have e1 : W.cell? ⟨N2, 1, none⟩ = some (.string ⟨#[]⟩) := b2.cell 1
    have j0 := b2.frozen 0
    have j1 := b2.frozen 1
    clear b1 b2
    go_wp2_with fail
    refine bodyPost_ret (v := .agg #[.string (p.1.extract 0 40), .string (p.2.extract 0 40)]) (by simp [results, Try.results7, go_sem, c0, c1, e0, e1, n1, n2]) rfl ⟨rfl, ?_⟩
    exact (((hB0.setCell (p := ⟨N1, 0, none⟩) l1 _).setCell (p := ⟨N1, 1, none⟩) l1 _).setCell (p := ⟨N2, 0, none⟩) l2 _).setCell (p := ⟨N2, 1, none⟩) l2 _
  · rw [if_pos h1, if_neg h2]
    have g1 : (40 : Int) < (p.1.size : Int) := by omega
    have g2 : ¬ (40 : Int) < (p.2.size : Int) := by omega
    go_enter Try.func7, Try.ntmps7
    go_upto_region 1 with (fail)
    generalize (w.alloc (.cells #[.string p.1, .string p.2] 32)).alloc (.cells #[.string ⟨#[]⟩, .string ⟨#[]⟩] 32) = W at *
    obtain ⟨N2, hN2⟩ : ∃ N2, N2 = w.heap.size + 1 := ⟨_, rfl⟩
    rw [← hN2] at b2 ⊢
    obtain ⟨N1, hN1⟩ : ∃ N1, N1 = w.heap.size := ⟨_, rfl⟩
    rw [← hN1] at b1 ⊢
    have n1 : ¬ (N1 = N2) := by omega
    have n2 : ¬ (N2 = N1) := by omega
    have l1 : w.heap.size ≤ N1 := by omega
    have l2 : w.heap.size ≤ N2 := by omega
    clear hN1 hN2
    have c0 : W.cell? ⟨N1, 0, none⟩ = some (.string p.1) := b1.cell 0
    have c1 : W.cell? ⟨N1, 1, none⟩ = some (.string p.2) := b1.cell 1
    have f0 := b1.frozen 0
    have f1 := b1.frozen 1
    have e0 : W.cell? ⟨N2, 0, none⟩ = some (.string ⟨#[]⟩) := b2.cell 0
    have e1 : W.cell? ⟨N2, 1, none⟩ = some (.string ⟨#[]⟩) := b2.cell 1
    have j0 := b2.frozen 0
    have j1 := b2.frozen 1
    clear b1 b2
    go_wp2_with fail
    refine bodyPost_ret (v := .agg #[.string (p.1.extract 0 40), .string (p.2)]) (by simp [results, Try.results7, go_sem, c0, c1, e0, e1, n1, n2]) rfl ⟨rfl, ?_⟩
    exact ((hB0.setCell (p := ⟨N1, 0, none⟩) l1 _).setCell (p := ⟨N2, 0, none⟩) l2 _).setCell (p := ⟨N2, 1, none⟩) l2 _
  · rw [if_neg h1, if_pos h2]
    have g1 : ¬ (40 : Int) < (p.1.size : Int) := by omega
    have g2 : (40 : Int) < (p.2.size : Int) := by omega
    go_enter Try.func7, Try.ntmps7
    go_upto_region 1 with (fail)
    generalize (w.alloc (.cells #[.string p.1, .string p.2] 32)).alloc (.cells #[.string ⟨#[]⟩, .string ⟨#[]⟩] 32) = W at *
    obtain ⟨N2, hN2⟩ : ∃ N2, N2 = w.heap.size + 1 := ⟨_, rfl⟩
    rw [← hN2] at b2 ⊢
    obtain ⟨N1, hN1⟩ : ∃ N1, N1 = w.heap.size := ⟨_, rfl⟩
    rw [← hN1] at b1 ⊢
    have n1 : ¬ (N1 = N2) := by omega
    have n2 : ¬ (N2 = N1) := by omega
    have l1 : w.heap.size ≤ N1 := by omega
    have l2 : w.heap.size ≤ N2 := by omega
    clear hN1 hN2
    have c0 : W.cell? ⟨N1, 0, none⟩ = some (.string p.1) := b1.cell 0
    have c1 : W.cell? ⟨N1, 1, none⟩ = some (.string p.2) := b1.cell 1
    have f0 := b1.frozen 0
    have f1 := b1.frozen 1
    have e0 : W.cell? ⟨N2, 0, none⟩ = some (.string ⟨#[]⟩) := b2.cell 0
    have e1 : W.cell? ⟨N2, 1, none⟩ = some (.string ⟨#[]⟩) := b2.cell 1
    have j0 := b2.frozen 0
    have j1 := b2.frozen 1
    clear b1 b2
    go_wp2_with fail
    refine bodyPost_ret (v := .agg #[.string (p.1), .string (p.2.extract 0 40)]) (by simp [results, Try.results7, go_sem, c0, c1, e0, e1, n1, n2]) rfl ⟨rfl, ?_⟩
    exact ((hB0.setCell (p := ⟨N1, 1, none⟩) l1 _).setCell (p := ⟨N2, 0, none⟩) l2 _).setCell (p := ⟨N2, 1, none⟩) l2 _
  · rw [if_neg h1, if_neg h2]
    have g1 : ¬ (40 : Int) < (p.1.size : Int) := by omega
    have g2 : ¬ (40 : Int) < (p.2.size : Int) := by omega
    go_enter Try.func7, Try.ntmps7
    go_upto_region 1 with (fail)
    generalize (w.alloc (.cells #[.string p.1, .string p.2] 32)).alloc (.cells #[.string ⟨#[]⟩, .string ⟨#[]⟩] 32) = W at *
    obtain ⟨N2, hN2⟩ : ∃ N2, N2 = w.heap.size + 1 := ⟨_, rfl⟩
    rw [← hN2] at b2 ⊢
    obtain ⟨N1, hN1⟩ : ∃ N1, N1 = w.heap.size := ⟨_, rfl⟩
    rw [← hN1] at b1 ⊢
    have n1 : ¬ (N1 = N2) := by omega
    have n2 : ¬ (N2 = N1) := by omega
    have l1 : w.heap.size ≤ N1 := by omega
    have l2 : w.heap.size ≤ N2 := by omega
    clear hN1 hN2
    have c0 : W.cell? ⟨N1, 0, none⟩ = some (.string p.1) := b1.cell 0
    have c1 : W.cell? ⟨N1, 1, none⟩ = some (.string p.2) := b1.cell 1
    have f0 := b1.frozen 0
    have f1 := b1.frozen 1
    have e0 : W.cell? ⟨N2, 0, none⟩ = some (.string ⟨#[]⟩) := b2.cell 0
    have e1 : W.cell? ⟨N2, 1, none⟩ = some (.string ⟨#[]⟩) := b2.cell 1
    have j0 := b2.frozen 0
    have j1 := b2.frozen 1
    clear b1 b2
    go_wp2_with fail
    refine bodyPost_ret (v := .agg #[.string (p.1), .string (p.2)]) (by simp [results, Try.results7, go_sem, c0, c1, e0, e1, n1, n2]) rfl ⟨rfl, ?_⟩
    exact (hB0.setCell (p := ⟨N2, 0, none⟩) l2 _).setCell (p := ⟨N2, 1, none⟩) l2 _
end Go.Proofs.Ytfmbikmpobieoaa
