/- What Above returns, of package twig and of its reference. -/
import Derived.Test.YtgldgdpgbfejmaaWb
import Derived.StillTailTactics
import Derived.Laws.IdiomStrings
import Derived.Lib.ConvBytes
namespace Go.Proofs.Ytgldgdpgbfejmaa
open Go.RowKit Go.Lib
set_option linter.unusedVariables false
set_option linter.unusedSimpArgs false
/-- what is above, as a string -/
def abS (s : ByteArray) : ByteArray := match abv s.data.toList with | some u => ⟨u.toArray⟩ | none => ByteArray.empty
/-- whether anything is above -/
def abB (s : ByteArray) : Bool := (abv s.data.toList).isSome
theorem take_snoc (s : ByteArray) (k : Nat) (h : k < s.size) : s.data.toList.take (k + 1) = s.data.toList.take k ++ [s[k]] := by
  rw [List.take_succ_eq_append_getElem (by simpa using h)]; rfl
theorem abv_take_ff (s : ByteArray) (k : Nat) (h : k < s.size) (hc : s[k] = 255) : abv (s.data.toList.take (k + 1)) = abv (s.data.toList.take k) := by
  rw [take_snoc s k h, abv_snoc, if_pos hc]
theorem abv_take (s : ByteArray) (k : Nat) (h : k < s.size) (hc : s[k] ≠ 255) : abv (s.data.toList.take (k + 1)) = some (s.data.toList.take k ++ [s[k] + 1]) := by
  rw [take_snoc s k h, abv_snoc, if_neg hc]
theorem ab_no {s : ByteArray} (h : abv s.data.toList = none) : abS s = ByteArray.empty ∧ abB s = false := by
  unfold abS abB; rw [h]; exact ⟨rfl, rfl⟩
theorem ab_yes {s : ByteArray} {u : List UInt8} (h : abv s.data.toList = some u) : abS s = ⟨u.toArray⟩ ∧ abB s = true := by
  unfold abS abB; rw [h]; exact ⟨rfl, rfl⟩
theorem abS_of (s : ByteArray) (k : Nat) (h : k < s.size) (hc : s[k] ≠ 255) (hA : abv s.data.toList = abv (s.data.toList.take (k + 1))) : abS s = (s.extract 0 k) ++ ⟨#[s[k] + 1]⟩ ∧ abB s = true := by
  have := ab_yes (hA.trans (abv_take s k h hc))
  refine ⟨this.1.trans (bytes_ext ?_), this.2⟩
  rw [ByteArray.data_append, Array.toList_append, ext_to]
theorem mod_succ (c : UInt8) : (((c.toNat : Nat) : Int) + 1) % 256 = (((c + 1).toNat : Nat) : Int) := by
  rw [UInt8.toNat_add]
  show _ = (((c.toNat + 1) % 256 : Nat) : Int)
  omega
theorem conv1 (c : UInt8) (x : Int) (hx : x = ((c.toNat : Nat) : Int)) (w : World) : (convert 60 9 (.slice (some ⟨w.heap.size, 0, none⟩) 1 1)).run Try.prog (w.alloc (.cells #[.int .u8 x] 5)).drew = .ok (.string ⟨#[c]⟩) (w.alloc (.cells #[.int .u8 x] 5)).drew :=
  run_convert_bytes_back (P := Try.prog) _ 60 9 5 ⟨w.heap.size, 0, none⟩ 1 [c] Try.underlying60 Try.underlying5 Try.underlying9 (fun j hj => by
    simp at hj
    subst hj
    subst hx
    simp [Addr.add, World.cell?, World.alloc, World.drew, -World.alloc_eq, -World.drew_eq])
set_option maxRecDepth 100000 in
set_option maxHeartbeats 4000000 in
theorem above_any (s : ByteArray) (w : World) (hs : s.size ≤ 4096) : Calls Try.prog 42 #[.string s] w fun e w' => e = .returned (.tuple #[.string (abS s), .bool (abB s)]) ∧ Below w.heap.size w w' := by
  have E0 : IntKind.i64.wrap ((s.size : Int) - 1) = (s.size : Int) - 1 := IntWalk.i64_in _ (by omega)
  go_enter Try.func42, Try.ntmps42
  go_wp2_with fail
  go_loop [4] (fun v => ∃ i : Nat, v = .int .i64 ((i : Int) - 1) ∧ i ≤ s.size ∧ Hid (abv s.data.toList = abv (s.data.toList.take i))) (fun v => ((intOf v) + 1).toNat)
  case atStart => exact ⟨s.size, rfl, Nat.le_refl _, Lib.hid (congrArg abv (List.take_of_length_le (Nat.le_refl _)).symm)⟩
  case round =>
    clear E0
    obtain ⟨i, rfl, hi, hA⟩ := hrel
    cases i with
    | zero =>
      have S := Lib.hid (ab_no (s := s) (hA.out.trans rfl))
      go_wp2_with fail
      go_ret2
      rw [S.out.1, S.out.2]
      exact ⟨rfl, Below.refl _ _⟩
    | succ k =>
      by_cases hc : s[k] = 255
      · have T : (((s[k].toNat : Nat) : Int) == 255) = true := by rw [hc]; rfl
        have S := Lib.hid (hA.out.trans (abv_take_ff s k (by omega) hc))
        clear hc
        have E1 : ((k + 1 : Nat) : Int) - 1 = (k : Int) := by omega
        rw [E1]
        have E2 : IntKind.i64.wrap ((k : Int) - 1) = (k : Int) - 1 := IntWalk.i64_in _ (by omega)
        clear E1
        go_wp2_with fail
        exact ⟨⟨k, rfl, by omega, S⟩, by simp [intOf]⟩
      · have T : (((s[k].toNat : Nat) : Int) == 255) = false := by
          rw [beq_eq_false_iff_ne]
          intro h
          exact hc (UInt8.toNat_inj.1 (by show s[k].toNat = 255; omega))
        have S := Lib.hid (abS_of s k (by omega) hc hA.out)
        have C := conv1 (s[k] + 1) _ (mod_succ s[k]) w
        have E1 : ((k + 1 : Nat) : Int) - 1 = (k : Int) := by omega
        rw [E1]
        clear E1 hc
        have hk1 : k < s.size := by omega
        have hk2 : k ≤ s.size := by omega
        have hk3 : (k : Int) < s.size := by omega
        have hk4 : (k : Int) ≤ s.size := by omega
        have hk5 : (0 : Int) ≤ k := by omega
        go_wp2_with fail
        clear T
        go_region
        all_goals
          go_wp2_with fail
          go_ret2
          rw [S.out.1, S.out.2]
          exact ⟨rfl, ((Below.refl _ _).alloc (Nat.le_refl _) _).drew⟩
theorem below_bytes (w : World) (s : ByteArray) : Below w.heap.size w (bytesWorld w 5 s) :=
  ⟨rfl, rfl, rfl, by rw [bytesWorld_size]; omega, fun k hk => bytesWorld_at_old w 5 s k hk⟩
theorem bytes_frozen (w : World) (s : ByteArray) (j : Nat) (hj : j < s.size) : (bytesWorld w 5 s).frozen? ⟨w.heap.size, j, none⟩ = false := by
  have hb := bytesWorld_at_new w 5 s
  have hs : j < (bytesCells w 5 s).size := by
    unfold bytesCells
    rw [Array.size_append, Array.size_map]
    exact Nat.lt_of_lt_of_le hj (Nat.le_add_right _ _)
  simp [World.frozen?, hb]
  omega
/-- the bytes of a string, the last one another -/
theorem conv_back (s : ByteArray) (k : Nat) (hn : s.size = k + 1) (c : UInt8) (x : Int) (hx : x = ((c.toNat : Nat) : Int)) (w : World) (cap : Nat) :
    (convert 60 9 (.slice (some ⟨w.heap.size, 0, none⟩) s.size cap)).run Try.prog ((bytesWorld w 5 s).setCell ⟨w.heap.size, k, none⟩ (.int .u8 x)) = .ok (.string (s.extract 0 k ++ ⟨#[c]⟩)) ((bytesWorld w 5 s).setCell ⟨w.heap.size, k, none⟩ (.int .u8 x)) := by
  subst hx
  have hl : (s.data.toList.take k ++ [c]).length = s.size := by
    rw [List.length_append, List.length_take]
    show min k s.size + 1 = s.size
    omega
  have hc : ∀ j, j < s.size → (bytesWorld w 5 s).cell? ⟨w.heap.size, j, none⟩ = some (.int .u8 (s.data.toList.getD j 0).toNat) := fun j hj => bytesWorld_cell w 5 s j hj
  have := run_convert_bytes_back (P := Try.prog) ((bytesWorld w 5 s).setCell ⟨w.heap.size, k, none⟩ (.int .u8 ((c.toNat : Nat) : Int))) 60 9 5 ⟨w.heap.size, 0, none⟩ cap (s.data.toList.take k ++ [c]) Try.underlying60 Try.underlying5 Try.underlying9 (fun j hj => by
    rw [hl] at hj
    have hplain : (⟨w.heap.size, 0, none⟩ : Addr).add j = ⟨w.heap.size, j, none⟩ := by unfold Addr.add; split <;> simp_all
    rw [hplain]
    by_cases e : j = k
    · subst e
      have h1 := hc j (by omega)
      have e1 : ((bytesWorld w 5 s).setCell ⟨w.heap.size, j, none⟩ (.int .u8 ((c.toNat : Nat) : Int))).cell? ⟨w.heap.size, j, none⟩ = some (.int .u8 ((c.toNat : Nat) : Int)) := by simp [go_sem, h1]
      rw [e1, List.getElem_append_right (by rw [List.length_take]; exact Nat.min_le_left _ _), List.getElem_singleton]
    · have hj' : j < k := by omega
      rw [World.cell?_setCell_other (h := fun h => e (congrArg Addr.off h).symm)]
      rw [hc j hj, List.getElem_append_left (by rw [List.length_take]; show j < min k s.size; omega), List.getElem_take]
      rw [List.getD_eq_getElem?_getD, List.getElem?_eq_getElem (show j < s.data.toList.length from hj)]
      rfl)
  rw [hl] at this
  have e : s.extract 0 k ++ ⟨#[c]⟩ = ⟨(s.data.toList.take k ++ [c]).toArray⟩ := bytes_ext (by rw [ByteArray.data_append, Array.toList_append, ext_to])
  rw [e]
  exact this
theorem ab_pred (s : ByteArray) (k : Nat) (h : s.size = k + 1) (hc : s[k] = 255) : abS s = abS (s.extract 0 k) ∧ abB s = abB (s.extract 0 k) := by
  have e : abv s.data.toList = abv (s.extract 0 k).data.toList := by
    rw [ext_to, ← abv_take_ff s k (by omega) hc, List.take_of_length_le]
    show s.size ≤ k + 1
    omega
  unfold abS abB
  rw [e]
  exact ⟨rfl, rfl⟩
set_option maxRecDepth 100000 in
set_option maxHeartbeats 4000000 in
theorem refAbove_any (n : Nat) : ∀ (s : ByteArray) (w : World), s.size = n → n ≤ 4096 → Calls Try.prog 43 #[.string s] w fun e w' => e = .returned (.tuple #[.string (abS s), .bool (abB s)]) ∧ Below w.heap.size w w' := by
  induction n with
  | zero =>
    intro s w hn hs
    have S := Lib.hid (ab_no (s := s) (by
      have : s.data.toList = [] := List.length_eq_zero_iff.1 hn
      rw [this]; rfl))
    have T : ((s.size : Int) == 0) = true := by rw [hn]; rfl
    clear hn
    go_enter Try.func43, Try.ntmps43
    go_wp2_with fail
    go_ret2
    rw [S.out.1, S.out.2]
    exact ⟨rfl, Below.refl _ _⟩
  | succ k ih =>
    intro s w hn hs
    have T : ((s.size : Int) == 0) = false := by rw [beq_eq_false_iff_ne]; omega
    have E1 : (s.size : Int) - 1 = (k : Int) := by omega
    have hk1 : k < s.size := by omega
    have hk2 : k ≤ s.size := by omega
    by_cases hc : s[k] = 255
    · have T2 : (((s[k].toNat : Nat) : Int) == 255) = true := by rw [hc]; rfl
      have S := Lib.hid (ab_pred s k hn hc)
      have IH := ih (s.extract 0 k) w (by simp; omega) (by omega)
      clear hc hn ih
      go_enter Try.func43, Try.ntmps43
      go_wp2_with fail
      refine IH.mono ?_
      rintro e w' ⟨rfl, hb⟩
      go_wp2_with fail
      go_ret2
      rw [S.out.1, S.out.2]
      exact ⟨rfl, hb⟩
    · have T2 : (((s[k].toNat : Nat) : Int) == 255) = false := by
        rw [beq_eq_false_iff_ne]
        intro h
        exact hc (UInt8.toNat_inj.1 (by show s[k].toNat = 255; omega))
      have S := Lib.hid (abS_of s k (by omega) hc (by rw [List.take_of_length_le]; show s.size ≤ k + 1; omega))
      have C := Lib.run_convert_string_bytes (P := Try.prog) w 9 60 5 s Try.underlying9 Try.underlying60 Try.underlying5
      have hf := bytes_frozen w s k hk1
      have hcl : (bytesWorld w 5 s).cell? ⟨w.heap.size, k, none⟩ = some (.int .u8 (s.data.toList.getD k 0).toNat) := bytesWorld_cell w 5 s k hk1
      have B := conv_back s k hn (s[k] + 1) _ (mod_succ s[k]) w (grownCap w s.size 0 5)
      have hB := below_bytes w s
      clear hc ih hn
      generalize grownCap w s.size 0 5 = cap at *
      generalize bytesWorld w 5 s = wb at *
      generalize (s.data.toList.getD k 0).toNat = last at *
      go_enter Try.func43, Try.ntmps43
      go_wp2_with fail
      go_ret2
      rw [S.out.1, S.out.2]
      exact ⟨rfl, hB.setCell (Nat.le_refl _) _⟩
end Go.Proofs.Ytgldgdpgbfejmaa
