/- The insertion sort of a stretch of a list of pairs. -/
import Derived.Test.YtfipifjlmepooaaPp
import Derived.StillTailTactics
import Derived.Deep.DeepCutAuto
import Derived.Shelf.RegionOpen
import Derived.Shelf.RegionOpenPlain
namespace Go.Proofs.Ytfipifjlmepooaa
open Go.RowKit Go.Lib
set_option linter.unusedVariables false
set_option linter.unusedSimpArgs false

def fn43 : Value := .func (.func 43) #[] #[]
/-- a stretch has been sorted -/
def SortPost (base g cap : Nat) (xs : List Pr) (a b : Nat) (w : World) (e : Ending) (w' : World) : Prop :=
  e = .returned (.tuple #[]) ∧ ∃ xs', Own base w' (.slice (some ⟨g, 0, none⟩) xs.length cap) xs' ∧ xs'.length = xs.length ∧ Stab xs xs' ∧ (∀ p, p < a ∨ b ≤ p → xs'[p]? = xs[p]?) ∧ Srt xs' a b ∧ Keep [g] w w'
/-- the four cells of two pairs of a row -/
theorem Own.two {base g cap n : Nat} {w : World} {xs : List Pr} (h : Own base w (.slice (some ⟨g, 0, none⟩) n cap) xs) (i : Nat) (hi : i < xs.length) :
    w.cell? ⟨g, i * 2, none⟩ = some (.string (pat xs i).1) ∧ w.cell? ⟨g, i * 2 + 1, none⟩ = some (.string (pat xs i).2) ∧ w.frozen? ⟨g, i * 2, none⟩ = false ∧ w.frozen? ⟨g, i * 2 + 1, none⟩ = false := by
  have hn : n = xs.length := by
    rcases h.2 with ⟨h1, h0⟩ | ⟨g', cap', cur, h1, _⟩
    · cases h1
    · simp at h1; exact h1.2.1
  subst hn
  have h' : w.ownsRow base 33 2 (.slice (some ⟨g, 0, none⟩) xs.length cap) xs.length (flat xs) := h
  have hf := flat_get xs i _ (pat_get hi)
  exact ⟨(h'.cellAt (i * 2) (by omega)).trans hf.1, (h'.cellAt (i * 2 + 1) (by omega)).trans hf.2, h'.frozenAt _, h'.frozenAt _⟩

theorem Own.swap {base g cap n : Nat} {w : World} {xs : List Pr} (h : Own base w (.slice (some ⟨g, 0, none⟩) n cap) xs) (i j : Nat) (hi : i < xs.length) (hj : j < xs.length) :
    Own base ((((w.setCell ⟨g, i * 2, none⟩ (.string (pat xs j).1)).setCell ⟨g, i * 2 + 1, none⟩ (.string (pat xs j).2)).setCell ⟨g, j * 2, none⟩ (.string (pat xs i).1)).setCell ⟨g, j * 2 + 1, none⟩ (.string (pat xs i).2)) (.slice (some ⟨g, 0, none⟩) n cap) (sw xs i j) := by
  have hn : n = xs.length := by
    rcases h.2 with ⟨h1, h0⟩ | ⟨g', cap', cur, h1, _⟩
    · cases h1
    · simp at h1; exact h1.2.1
  subst hn
  have h' : w.ownsRow base 33 2 (.slice (some ⟨g, 0, none⟩) xs.length cap) xs.length (flat xs) := h
  have h1 := (((h'.stored (i * 2) (.string (pat xs j).1)).1.stored (i * 2 + 1) (.string (pat xs j).2)).1.stored (j * 2) (.string (pat xs i).1)).1.stored (j * 2 + 1) (.string (pat xs i).2)
  have h2 := h1.1
  rw [flat_set xs i (pat xs j) hi, flat_set (xs.set i (pat xs j)) j (pat xs i) (by simpa using hj)] at h2
  unfold Own
  rw [sw_length]
  exact h2

set_option maxRecDepth 100000 in
set_option maxHeartbeats 8000000 in
theorem insertion (base g cap : Nat) (xs : List Pr) (a b : Nat) (w : World) (hO : Own base w (.slice (some ⟨g, 0, none⟩) xs.length cap) xs) (hab : a ≤ b) (hb : b ≤ xs.length) (hn : xs.length ≤ 1000) :
    Calls Try.prog 54 #[.slice (some ⟨g, 0, none⟩) xs.length cap, .int .i64 a, .int .i64 b, fn43] w (SortPost base g cap xs a b w) := by
  obtain ⟨N, hN⟩ : ∃ N, N = xs.length := ⟨_, rfl⟩
  rw [← hN] at hO hb hn ⊢
  have HN := Lib.hid hN
  clear hN
  unfold fn43
  go_enter Try.func54, Try.ntmps54
  have Ea : IntKind.i64.wrap ((a : Int) + 1) = ((a + 1 : Nat) : Int) := by rw [IntWalk.i64_in _ (by omega)]; omega
  go_wp2_with fail
  go_loopw [8] (fun i wr => ∃ (k : Nat) (ys : List Pr), i = .int .i64 k ∧ a + 1 ≤ k ∧ k ≤ 1001 ∧ Hid (ys.length = N) ∧ Hid (Stab xs ys) ∧ Hid (∀ p, p < a ∨ b ≤ p → ys[p]? = xs[p]?) ∧ Hid (Srt ys a k) ∧ Own base wr (.slice (some ⟨g, 0, none⟩) N cap) ys ∧ Keep [g] w wr) (fun i wr => b - (intOf i).toNat)
  case atStart => exact ⟨a + 1, xs, by go_num, by omega, by omega, Lib.hid HN.out.symm, Lib.hid (Stab.refl _), Lib.hid (fun _ _ => rfl), Lib.hid (fun p q h1 h2 h3 => by omega), hO, Keep.refl _ _⟩
  case round =>
    clear hO Ea
    obtain ⟨k, ys, rfl, hk, hk2, hL, hS, hU, hSrt, hO, hK⟩ := hrel
    by_cases hlt : k < b
    · go_wp2_with fail
      go_loopw [9] (fun j wr => ∃ (m : Nat) (ys : List Pr), j = .int .i64 m ∧ a ≤ m ∧ m ≤ k ∧ Hid (ys.length = N) ∧ Hid (Stab xs ys) ∧ Hid (∀ p, p < a ∨ b ≤ p → ys[p]? = xs[p]?) ∧ Hid (Ins ys a m k) ∧ Own base wr (.slice (some ⟨g, 0, none⟩) N cap) ys ∧ Keep [g] w wr) (fun j wr => (intOf j).toNat)
      case atStart => exact ⟨k, ys, rfl, by omega, by omega, hL, hS, hU, Lib.hid (ins_start hSrt.out), hO, hK⟩
      case round =>
        clear hL hS hU hSrt hO hK
        obtain ⟨m, ys, rfl, hm, hm2, hL, hS, hU, hI, hO, hK⟩ := hrel
        by_cases ham : a < m
        · obtain ⟨j, hj⟩ : ∃ j, m = j + 1 := ⟨m - 1, by omega⟩
          have hlen := hL.out
          obtain ⟨c0, c1, f0, f1⟩ := hO.two m (by omega)
          obtain ⟨d0, d1, e0, e1⟩ := hO.two j (by omega)
          have c0' : wr.drew.cell? ⟨g, m * 2, none⟩ = _ := c0
          have c1' : wr.drew.cell? ⟨g, m * 2 + 1, none⟩ = _ := c1
          have d0' : wr.drew.cell? ⟨g, j * 2, none⟩ = _ := d0
          have d1' : wr.drew.cell? ⟨g, j * 2 + 1, none⟩ = _ := d1
          have F1 : IntKind.i64.wrap ((m : Int) - 1) = (j : Int) := by rw [IntWalk.i64_in _ (by omega)]; omega
          have F2 : (m : Int) < (N : Int) := by omega
          have F3 : (j : Int) < (N : Int) := by omega
          have F4 : (a : Int) < (m : Int) := by omega
          have HJ := Lib.hid hj
          clear hj
          go_wp2_with fail
          go_still_tail 14, (by kernel_rfl)
          change wpList _ _ _ _ _ wr.drew
          have hOd : Own base wr.drew (.slice (some ⟨g, 0, none⟩) N cap) ys := hO
          have hKd : Keep [g] w wr.drew := hK.trans (Keep.of_below (Below.refl _ wr).drew)
          clear c0 c1 d0 d1 f0 f1 e0 e1 c0' c1' d0' d1' hO hK
          generalize wr.drew = wd at *
          go_wp2_with fail
          refine (cmp43 (pat ys m) (pat ys j) _).mono ?_
          rintro e w1 ⟨rfl, hb1⟩
          have hO1 : Own base w1 (.slice (some ⟨g, 0, none⟩) N cap) ys := own_keep hOd (Keep.of_below (X := []) hb1) (by simp)
          have hK1 : Keep [g] w w1 := hKd.trans (Keep.of_below hb1)
          clear hOd hKd hb1
          by_cases hcmp : cmpS (pat ys m).1 (pat ys j).1 < 0
          · obtain ⟨c0, c1, f0, f1⟩ := hO1.two m (by omega)
            obtain ⟨d0, d1, e0, e1⟩ := hO1.two j (by have := HJ.out; omega)
            have hsw := Lib.hid (hO1.swap m j (by omega) (by have := HJ.out; omega))
            have hKs := Lib.hid (((((hK1.trans (Keep.of_below (Below.refl _ w1).drew)).setCell (p := ⟨g, m * 2, none⟩) (by simp) (.string (pat ys j).1)).setCell (p := ⟨g, m * 2 + 1, none⟩) (by simp) (.string (pat ys j).2)).setCell (p := ⟨g, j * 2, none⟩) (by simp) (.string (pat ys m).1)).setCell (p := ⟨g, j * 2 + 1, none⟩) (by simp) (.string (pat ys m).2))
            have n1 : m * 2 ≠ j * 2 := by have := HJ.out; omega
            have n2 : m * 2 ≠ j * 2 + 1 := by have := HJ.out; omega
            have n3 : m * 2 + 1 ≠ j * 2 := by have := HJ.out; omega
            have n4 : m * 2 + 1 ≠ j * 2 + 1 := by have := HJ.out; omega
            have n5 := Ne.symm n1
            have n6 := Ne.symm n2
            have n7 := Ne.symm n3
            have n8 := Ne.symm n4
            have HC := Lib.hid hcmp
            clear hO1 hK1
            go_wp2_with fail
            go_region
            all_goals
              go_wp2_with fail
              have hj := HJ.out
              subst hj
              refine ⟨⟨j, sw ys (j + 1) j, rfl, by omega, by omega, Lib.hid (by rw [sw_length]; exact hL.out), Lib.hid (hS.out.trans (stab_sw (by omega) (Lt.ne HC.out))), Lib.hid (fun p hp => ?_), Lib.hid (ins_step hI.out (by omega) (by omega) (by omega) HC.out), hsw.out, hKs.out⟩, by simp [intOf]⟩
              rw [sw_get (by omega) (by omega)]
              exact hU.out p hp
          · have E1 : IntKind.i64.wrap ((k : Int) + 1) = ((k + 1 : Nat) : Int) := by rw [IntWalk.i64_in _ (by omega)]; omega
            have HC := Lib.hid hcmp
            have hge : 0 ≤ cmpS (pat ys m).1 (pat ys j).1 := by omega
            clear F1
            go_wp2_with fail
            refine ⟨⟨k + 1, ys, by go_num, by omega, by omega, hL, hS, hU, Lib.hid (ins_end hI.out (.inr ?_)), hO1, hK1⟩, by simp [intOf]; omega⟩
            have hj := HJ.out
            subst hj
            have hle : Le (pat ys j).1 (pat ys (j + 1)).1 := not_lt_le (by have := HC.out; omega)
            exact hle
        · have HM := Lib.hid (show m = a by omega)
          have E1 : IntKind.i64.wrap ((k : Int) + 1) = ((k + 1 : Nat) : Int) := by rw [IntWalk.i64_in _ (by omega)]; omega
          have F4 : ¬ ((a : Int) < (m : Int)) := by omega
          have F5 : ¬ (a < m) := ham
          have F6 : m ≤ a := by omega
          have hOd := Lib.hid (show Own base wr.drew (.slice (some ⟨g, 0, none⟩) N cap) ys from hO)
          have hKd := Lib.hid (show Keep [g] w wr.drew from hK.trans (Keep.of_below (Below.refl _ wr).drew))
          clear hO hK hm ham
          go_wp2_with fail
          have mixed : Try.prog.follows .mixedOrders = true := by kernel_rfl
          go_big_region_o
          clear mixed
          go_wp2_with fail
          exact ⟨⟨k + 1, ys, by go_num, by omega, by omega, hL, hS, hU, Lib.hid (ins_end hI.out (.inl (Nat.le_of_eq HM.out))), hOd.out, hKd.out⟩, by simp [intOf]; omega⟩
    · go_wp2_with fail
      go_end0
      refine ⟨rfl, ys, ?_, ?_, hS.out, hU.out, ?_, hK⟩
      · rw [← HN.out]; exact hO
      · rw [← HN.out]; exact hL.out
      · intro p q h1 h2 h3; exact hSrt.out p q h1 h2 (by omega)
end Go.Proofs.Ytfipifjlmepooaa
