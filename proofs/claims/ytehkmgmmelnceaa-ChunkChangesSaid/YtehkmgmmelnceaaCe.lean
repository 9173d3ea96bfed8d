/- Contracts of what reads a slice of numbers: Contains, the reference's Rank and Of, Equal. -/
import Derived.Test.YtehkmgmmelnceaaCd
import Derived.Deep.AppendLies
namespace Go.Proofs.Ytehkmgmmelnceaa
open Go.RowKit Go.Shelf
set_option linter.unusedVariables false
set_option linter.unusedSimpArgs false

/-- the slice at A has these numbers -/
def RdA (w : World) (A : Option Addr) (xs : List Nat) : Prop := ∀ j, j < xs.length → ∃ g, A = some ⟨g, 0, none⟩ ∧ w.cell? ⟨g, j, none⟩ = some (.int .i64 (xs[j]?.getD 0 : Nat))
theorem caddr (b off j : Nat) : (⟨b, off, none⟩ : Addr).add j = ⟨b, off + j, none⟩ := by unfold Addr.add; split <;> simp_all
theorem RdA.of_own {w : World} {base : Nat} {v : Value} {xs : List Nat} {n : Nat} (h : w.ownsRow base 3 1 v n (vals xs)) : ∃ A c, v = .slice A xs.length c ∧ RdA w A xs := by
  have hl : n = xs.length := by have := h.1; simp [vals] at this; omega
  subst hl
  rcases h.2 with ⟨rfl, h0⟩ | ⟨g, cap, cur, rfl, hg, _⟩
  · exact ⟨none, 0, by rw [h0], fun j hj => by omega⟩
  · refine ⟨_, cap, rfl, fun j hj => ⟨g, rfl, ?_⟩⟩
    have hc := h.cells (g := g) rfl j (.int .i64 (xs[j]'hj : Nat)) (by simp [vals, List.getElem?_eq_getElem hj])
    rw [caddr, Nat.zero_add] at hc
    rw [hc, List.getElem?_eq_getElem hj]
    rfl
theorem RdA.below {w w' : World} {A : Option Addr} {xs : List Nat} (h : RdA w A xs) (hb : Below w.heap.size w w') : RdA w' A xs := fun j hj => by
  obtain ⟨g, e, hc⟩ := h j hj
  exact ⟨g, e, (hb.cell (World.block_lt_of_cell? w _ hc)).trans hc⟩

/-- whether a number is among them -/
def hasI (xs : List Nat) (i : Int) : Bool := xs.any fun (x : Nat) => (i == (x : Int))
theorem hasI_take (xs : List Nat) (i : Int) (k : Nat) (hk : k < xs.length) : hasI (xs.take (k + 1)) i = (hasI (xs.take k) i || (i == ((xs[k]?.getD 0 : Nat) : Int))) := by
  rw [List.take_succ_eq_append_getElem hk]
  unfold hasI
  rw [List.any_append, List.getElem?_eq_getElem hk]
  simp only [List.any_cons, List.any_nil, Bool.or_false, Option.getD_some]
theorem hasI_of_take (xs : List Nat) (i : Int) (k : Nat) (h : hasI (xs.take k) i = true) : hasI xs i = true := by
  unfold hasI at *
  rw [List.any_eq_true] at *
  obtain ⟨x, hx, h⟩ := h
  exact ⟨x, List.mem_of_mem_take hx, h⟩

/-- what Index tells -/
def IdxPost (xs : List Nat) (i : Int) (w : World) (e : Ending) (w' : World) : Prop := ∃ r : Int, e = .returned (.int .i64 r) ∧ decide (0 ≤ r) = hasI xs i ∧ w = w'

set_option maxHeartbeats 1000000 in
theorem index_any (A : Option Addr) (c : Nat) (xs : List Nat) (i : Int) (w : World) (hR : RdA w A xs) (hl : xs.length ≤ 1000) :
    Calls Try.prog 39 #[.slice A xs.length c, .int .i64 i] w (IdxPost xs i w) := by
  have HR := Lib.hid hR
  clear hR
  go_enter Try.func39, Try.ntmps39
  go_wp2_with fail
  go_loop [8] (fun t => ∃ k : Nat, k ≤ xs.length ∧ t = .int .i64 k ∧ Hid (hasI (xs.take k) i = false)) (fun t => xs.length - (intOf t).toNat)
  case atStart => exact ⟨0, Nat.zero_le _, rfl, Lib.hid (by simp [hasI])⟩
  case round =>
    obtain ⟨k, hk, rfl, hno⟩ := hrel
    by_cases hlt : k < xs.length
    · obtain ⟨g, rfl, hc⟩ := HR.out k hlt
      have hs := Lib.hid (hasI_take xs i k hlt)
      obtain ⟨y, hy⟩ : ∃ y, xs[k]?.getD 0 = y := ⟨_, rfl⟩
      rw [hy] at hc hs
      clear hy
      by_cases he : i = (y : Int)
      · have d : (i == (y : Int)) = true := by rw [beq_iff_eq]; exact he
        have P : Hid (decide ((0 : Int) ≤ (k : Int)) = hasI xs i) := Lib.hid (by
          rw [hasI_of_take xs i (k + 1) (by rw [hs.out, d]; simp)]; simp)
        clear he hs
        go_wp2
        go_ret
        exact ⟨k, rfl, P.out, rfl⟩
      · have d : (i == (y : Int)) = false := by rw [beq_eq_false_iff_ne]; exact he
        have P : Hid (hasI (xs.take (k + 1)) i = false) := Lib.hid (by rw [hs.out, hno.out, d]; rfl)
        clear he hs hno
        go_wp2
        go_round
        case rel => exact ⟨k + 1, by omega, by go_num, P⟩
        case measure => simp [intOf]; omega
    · have P : Hid (decide ((0 : Int) ≤ -1) = hasI xs i) := Lib.hid (by
        have := hno.out; rw [List.take_of_length_le (by omega)] at this; rw [this]; rfl)
      clear hno
      go_wp2
      go_ret
      exact ⟨-1, rfl, P.out, rfl⟩
set_option maxHeartbeats 1000000 in
theorem contains_any (A : Option Addr) (c : Nat) (xs : List Nat) (i : Int) (w : World) (hR : RdA w A xs) (hl : xs.length ≤ 1000) :
    Calls Try.prog 21 #[.slice A xs.length c, .int .i64 i] w fun e w' => e = .returned (.bool (hasI xs i)) ∧ w = w' := by
  have HR := Lib.hid hR
  clear hR
  go_enter Try.func21, Try.ntmps21
  go_wp2_with (go_at_call 39; refine (index_any A c xs i _ HR.out hl).mono ?_; rintro e w' ⟨r, rfl, hr, rfl⟩; have HR2 := Lib.hid hr; clear hr)
  go_ret
  exact ⟨congrArg (fun x => Ending.returned (Value.bool x)) HR2.out, rfl⟩

/-- how many are less -/
def lessI (xs : List Nat) (i : Int) : Nat := xs.countP fun (x : Nat) => decide ((x : Int) < i)
theorem lessI_take (xs : List Nat) (i : Int) (k : Nat) (hk : k < xs.length) : lessI (xs.take (k + 1)) i = lessI (xs.take k) i + if ((xs[k]?.getD 0 : Nat) : Int) < i then 1 else 0 := by
  rw [List.take_succ_eq_append_getElem hk]
  simp only [lessI, List.countP_append, List.countP_singleton, List.getElem?_eq_getElem hk, Option.getD_some, decide_eq_true_eq]
theorem lessI_els (b m : Nat) (i : Int) : lessI (elsTo b m) i = cnt (min i.toNat m) b := by
  induction m with
  | zero => rw [Nat.min_zero]; rfl
  | succ m ih =>
    rw [elsTo_succ]
    have ha : lessI (elsTo b m ++ if b.testBit m then [m] else []) i = lessI (elsTo b m) i + lessI (if b.testBit m then [m] else []) i := by simp [lessI, List.countP_append]
    rw [ha, ih]
    by_cases hm : m < i.toNat
    · rw [Nat.min_eq_right (by omega), Nat.min_eq_right (by omega), cnt_els, cnt_els, elsTo_succ, List.length_append]
      congr 1
      cases h : b.testBit m
      · rfl
      · have : ((m : Int) < i) := by omega
        simp [lessI, this]
    · rw [Nat.min_eq_left (by omega), Nat.min_eq_left (by omega)]
      cases h : b.testBit m
      · rfl
      · have : ¬ ((m : Int) < i) := by omega
        simp [lessI, this]
theorem lessI_rnk (b : Nat) (i : Int) (hb : b < 4294967296) : lessI (elsTo b 32) i = rnk b i := by
  rw [lessI_els]
  unfold rnk
  by_cases h : i.toNat ≤ 32
  · rw [Nat.min_eq_left h]
  · rw [Nat.min_eq_right (by omega)]; exact (cnt_high _ b hb (by omega)).symm

set_option maxHeartbeats 1000000 in
theorem refRank_any (b : Nat) (i : Int) (w : World) (hb : b < 4294967296) :
    Calls Try.prog 26 #[.int .u32 b, .int .i64 i] w fun e w' => e = .returned (.int .i64 (rnk b i)) ∧ Below w.heap.size w w' := by
  have Z := Lib.hid (lessI_rnk b i hb)
  go_enter Try.func26, Try.ntmps26
  go_wp2_with fail
  refine (list_any b _ hb).mono ?_
  rintro e w1 ⟨v, rfl, hown, hB⟩
  obtain ⟨A, c, rfl, hR⟩ := RdA.of_own hown
  have HR := Lib.hid hR
  have hle := elsTo_le b 32
  clear hR hown
  generalize elsTo b 32 = xs at *
  go_wp2_with fail
  go_loop [5, 11] (fun m t => ∃ k : Nat, k ≤ xs.length ∧ t = .int .i64 k ∧ m = .int .i64 (lessI (xs.take k) i)) (fun _ t => xs.length - (intOf t).toNat)
  case atStart => exact ⟨0, Nat.zero_le _, rfl, rfl⟩
  case round =>
    obtain ⟨k, hk, rfl, rfl⟩ := hrel
    have hb2 : lessI (xs.take k) i ≤ 32 := by
      have h1 : lessI (xs.take k) i ≤ (xs.take k).length := List.countP_le_length
      have h2 := List.length_take_le k xs
      omega
    by_cases hlt : k < xs.length
    · obtain ⟨g, rfl, hc⟩ := HR.out k hlt
      have hs := Lib.hid (lessI_take xs i k hlt)
      obtain ⟨y, hy⟩ : ∃ y, xs[k]?.getD 0 = y := ⟨_, rfl⟩
      rw [hy] at hc hs
      clear hy
      by_cases he : (y : Int) < i
      · go_wp2
        go_round
        case rel => exact ⟨k + 1, by omega, by go_num, by rw [hs.out, if_pos he]; go_num⟩
        case measure => simp [intOf]; omega
      · go_wp2
        go_round
        case rel => exact ⟨k + 1, by omega, by go_num, by rw [hs.out, if_neg he]; go_num⟩
        case measure => simp [intOf]; omega
    · have P : Hid (lessI (xs.take k) i = rnk b i) := Lib.hid (by rw [List.take_of_length_le (by omega)]; exact Z.out)
      go_wp2
      go_ret
      exact ⟨ret_int (congrArg (fun x : Nat => (x : Int)) P.out), hB⟩
end Go.Proofs.Ytehkmgmmelnceaa
