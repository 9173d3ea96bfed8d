/- Contracts of New and Take without the sizes of memory; the example of layer 4 returns true. -/
import Derived.Test.YtgldgdpgbfejmaaTd
namespace Go.Proofs.Ytgldgdpgbfejmaa
open Go.RowKit Go.Conc
set_option linter.unusedVariables false
set_option linter.unusedSimpArgs false
def NewPost (n : Nat) (w : World) (e : Ending) (w' : World) : Prop :=
  ∃ p c, e = .returned (.tuple #[at0 p, .int .i64 0]) ∧ Pool w' p c n 0 (upto n) ∧ w.heap.size ≤ p ∧ w.heap.size ≤ c ∧ Below w.heap.size w w'
theorem new_is (n : Nat) (w : World) (h1 : 1 ≤ n) (h2 : n ≤ 4096) : Calls Try.prog 32 #[.int .i64 n] w (NewPost n w) :=
  (new_ok n w h1 h2).mono fun e w' ⟨he, hP, hs, hB⟩ => ⟨_, _, he, hP, by omega, by omega, hB⟩
def TakePost (p c k : Nat) (out : Int) (i : Nat) (q : List Nat) (w : World) (e : Ending) (w' : World) : Prop :=
  ∃ t, e = .returned (.tuple #[at0 t, .int .i64 0]) ∧ Pool w' p c k (out + 1) q ∧ Tok w' t p i true ∧ w.heap.size ≤ t ∧ Keep [p, c] w w'
theorem take_is (p c k : Nat) (out : Int) (i : Nat) (q : List Nat) (w : World) (h : Pool w p c k out (i :: q)) (ho : 0 ≤ out ∧ out < 10000) :
    Calls Try.prog 33 #[at0 p] w (TakePost p c k out i q w) :=
  (take_some p c k out i q w h ho).mono fun e w' ⟨he, hP, hT, hs, hK⟩ => ⟨_, he, hP, hT, Nat.le_refl _, hK⟩
end Go.Proofs.Ytgldgdpgbfejmaa
