/- The calls of PairChanges, each with what it makes. -/
import Derived.Test.YtfipifjlmepooaaRf
namespace Go.Proofs.Ytfipifjlmepooaa
open Go.RowKit Go.Lib
set_option linter.unusedVariables false
set_option linter.unusedSimpArgs false
theorem own_rd {A : Option Addr} {c : Nat} {xs : List Pr} {w : World} (hR : Rd w A xs) (hn : xs.length ≤ 1000) :
    Calls Try.prog 17 #[.slice A xs.length c] w fun e w' => ∃ A' c', e = .returned (.slice A' xs.length c') ∧ Rd w' A' xs ∧ Below w.heap.size w w' := by
  refine (own_any A c xs w hR hn).mono ?_
  rintro e w' ⟨v, rfl, hO, hB⟩
  obtain ⟨A', c', rfl, h1⟩ := hO.rd
  exact ⟨A', c', rfl, h1, hB⟩
theorem refPut_rd {A : Option Addr} {c : Nat} {xs : List Pr} {w : World} (hR : Rd w A xs) (k u : ByteArray) (hn : xs.length ≤ 900) (hz : Sized xs) (hk : k.size ≤ maxLen) :
    Calls Try.prog 26 #[.slice A xs.length c, .agg #[.string k, .string u]] w fun e w' => ∃ A' c', e = .returned (.slice A' (putK xs (k, u)).length c') ∧ Rd w' A' (putK xs (k, u)) ∧ Below w.heap.size w w' := by
  refine (refPut_any A c xs (k, u) w hR hn hz hk).mono ?_
  rintro e w' ⟨v, rfl, hO, hB⟩
  obtain ⟨A', c', rfl, h1⟩ := hO.rd
  exact ⟨A', c', rfl, h1, hB⟩
theorem refDrop_rd {A : Option Addr} {c : Nat} {xs : List Pr} {w : World} (hR : Rd w A xs) (k : ByteArray) (hn : xs.length ≤ 1000) :
    Calls Try.prog 27 #[.slice A xs.length c, .string k] w fun e w' => ∃ A' c', e = .returned (.slice A' (dropK xs k).length c') ∧ Rd w' A' (dropK xs k) ∧ Below w.heap.size w w' := by
  refine (refDrop_any A c xs k w hR hn).mono ?_
  rintro e w' ⟨v, rfl, hO, hB⟩
  obtain ⟨A', c', rfl, h1⟩ := hO.rd
  exact ⟨A', c', rfl, h1, hB⟩
theorem refSame_rd {A B : Option Addr} {ca cb : Nat} {xs : List Pr} {w : World} (ha : Rd w A xs) (hb : Rd w B xs) (hn : xs.length ≤ 1000) :
    Calls Try.prog 16 #[.slice A xs.length ca, .slice B xs.length cb] w fun e w' => e = .returned (.bool true) ∧ Below w.heap.size w w' := by
  refine (refSame_any A B ca cb xs xs w ha hb hn hn).mono ?_
  rintro e w' ⟨rfl, n, rfl⟩
  rw [leq_refl]
  exact ⟨rfl, below_of_drew w n⟩
theorem rises_sl {A : Option Addr} {c : Nat} {xs : List Pr} {w : World} (h : Sl w A c xs) (hn : xs.length ≤ 1000) :
    Calls Try.prog 20 #[.slice A xs.length c] w fun e w' => e = .returned (.bool true) ∧ Below w.heap.size w w' := by
  refine (rises_any A c xs w h.1 hn).mono ?_
  rintro e w' ⟨rfl, n, rfl⟩
  rw [(risesB_iff xs).2 h.2.2.2]
  exact ⟨rfl, below_of_drew w n⟩
theorem refFind_rd {A : Option Addr} {c : Nat} {xs : List Pr} {k : ByteArray} {w : World} (hR : Rd w A xs) (hn : xs.length ≤ 1000) (hz : Sized xs) (hk : k.size ≤ maxLen) :
    Calls Try.prog 23 #[.slice A xs.length c, .string k] w fun e w' => e = .returned (.tuple #[.int .i64 (posK xs k), .bool (isK xs k)]) ∧ Below w.heap.size w w' := by
  refine (refFind_any A c xs k w hR hn hz hk).mono ?_
  rintro e w' ⟨rfl, n, rfl⟩
  exact ⟨rfl, below_of_drew w n⟩
theorem norm_sized {xs R : List Pr} (h : IsNorm xs R) (hz : Sized xs) : Sized R := sized_mem fun x hx => mem_sized hz x (norm_sub h x hx)
def sX : ByteArray := ⟨#[120]⟩
def sY : ByteArray := ⟨#[121]⟩
theorem eql33 (w : World) : (binOp .eql 33 (.agg #[.string ⟨#[120]⟩, .string ⟨#[121]⟩]) (.agg #[.string ⟨#[120]⟩, .string ⟨#[121]⟩])).run Try.prog w = .ok (.bool true) w := by
  rw [run_eql_struct, show (10000 : Nat) = 9998 + 2 from rfl]
  have := eq33 (sX, sY) (sX, sY) 9998 w
  unfold sX sY at this
  rw [this]
  simp [peq]
/-- the list with room behind it -/
def Room (w : World) (g c : Nat) (R : List Pr) : Prop := Sl w (some ⟨g, 0, none⟩) c R ∧ w.cell? ⟨g, R.length * 2, none⟩ = some (.string ⟨#[120]⟩) ∧ w.cell? ⟨g, R.length * 2 + 1, none⟩ = some (.string ⟨#[121]⟩) ∧ R.length + 1 ≤ c
theorem Room.below {w w' : World} {g c : Nat} {R : List Pr} (h : Room w g c R) (hB : Below w.heap.size w w') : Room w' g c R := ⟨h.1.below hB, cell_on h.2.1 hB, cell_on h.2.2.1 hB, h.2.2.2⟩
theorem Own.room {base : Nat} {w : World} {v : Value} {R : List Pr} (h : Own base w v (R ++ [(sX, sY)])) (hr : RisesL R) : ∃ g c, v = .slice (some ⟨g, 0, none⟩) (R.length + 1) c ∧ Room w g c R := by
  have hl : (R ++ [(sX, sY)]).length = R.length + 1 := by simp
  obtain ⟨A, c, rfl, hR, hA, hN⟩ := h.lie
  obtain ⟨A', c', hv, -, hc, -, -⟩ := h.lies
  simp at hv
  obtain ⟨rfl, rfl⟩ := hv
  rcases hA with ⟨rfl, rfl⟩ | ⟨g, rfl⟩
  · have := hN rfl; simp at this
  · rw [hl] at hc
    have ht := hR.take R.length
    rw [List.take_left] at ht
    obtain ⟨g', off', e, c0, c1⟩ := hR R.length (sX, sY) (by simp)
    simp at e
    obtain ⟨rfl, rfl⟩ := e
    rw [Nat.zero_add] at c0 c1
    exact ⟨g, c, by rw [hl], ⟨ht, by omega, (fun h => by cases h), hr⟩, c0, c1, hc⟩
end Go.Proofs.Ytfipifjlmepooaa
