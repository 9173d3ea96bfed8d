/- Contracts of New and Take without the sizes of memory; the example of layer 4 returns true. -/
import Derived.Test.YtfipifjlmepooaaTd
namespace Go.Proofs.Ytfipifjlmepooaa
open Go.RowKit Go.Conc
set_option linter.unusedVariables false
set_option linter.unusedSimpArgs false
def NewPost (n : Nat) (w : World) (e : Ending) (w' : World) : Prop :=
  ∃ p c, e = .returned (.tuple #[at0 p, .int .i64 0]) ∧ Pool w' p c n 0 (upto n) ∧ w.heap.size ≤ p ∧ w.heap.size ≤ c ∧ Below w.heap.size w w'
theorem new_is (n : Nat) (w : World) (h1 : 1 ≤ n) (h2 : n ≤ 4096) : Calls Try.prog 31 #[.int .i64 n] w (NewPost n w) :=
  (new_ok n w h1 h2).mono fun e w' ⟨he, hP, hs, hB⟩ => ⟨_, _, he, hP, by omega, by omega, hB⟩
def TakePost (p c k : Nat) (out : Int) (i : Nat) (q : List Nat) (w : World) (e : Ending) (w' : World) : Prop :=
  ∃ t, e = .returned (.tuple #[at0 t, .int .i64 0]) ∧ Pool w' p c k (out + 1) q ∧ Tok w' t p i true ∧ w.heap.size ≤ t ∧ Keep [p, c] w w'
theorem take_is (p c k : Nat) (out : Int) (i : Nat) (q : List Nat) (w : World) (h : Pool w p c k out (i :: q)) (ho : 0 ≤ out ∧ out < 10000) :
    Calls Try.prog 33 #[at0 p] w (TakePost p c k out i q w) :=
  (take_some p c k out i q w h ho).mono fun e w' ⟨he, hP, hT, hs, hK⟩ => ⟨_, he, hP, hT, Nat.le_refl _, hK⟩
set_option maxRecDepth 100000 in
set_option maxHeartbeats 2000000 in
theorem awake4 (w : World) : Calls Try.prog 30 #[] w fun e w' => e = .returned (.bool true) ∧ Below w.heap.size w w' := by
  go_enter Try.func30, Try.ntmps30
  go_wp2_with fail
  refine (new_is 2 w (by omega) (by omega)).mono ?_
  rintro e w1 ⟨p, c, rfl, hP1, hp, hc, hB1⟩
  unfold at0
  go_wp2_with fail
  refine (take_is _ _ _ _ _ _ _ hP1 (by omega)).mono ?_
  rintro e w2 ⟨a, rfl, hP2, hT2, ha, hK2⟩
  have s1 := hB1.size
  have l1 := hP1.lt
  have hB2 := hB1.trans (hK2.below (B := w.heap.size) s1 (by simp; omega))
  clear hP1 hB1
  go_wp2_with fail
  refine (take_is _ _ _ _ _ _ _ hP2 (by omega)).mono ?_
  rintro e w3 ⟨b, rfl, hP3, hT3, hb, hK3⟩
  have l2 := hT2.lt
  have hT2' := hT2.keep hK3 (by simp; omega)
  have hB3 := hB2.trans (hK3.below (B := w.heap.size) hB2.size (by simp; omega))
  clear hT2 hP2 hB2 hK3 hK2
  go_wp2_with fail
  refine (id_any _ _ _ _ _ hT2').mono ?_
  rintro e w' ⟨rfl, rfl⟩
  go_wp2_with fail
  refine (id_any _ _ _ _ _ hT3).mono ?_
  rintro e w' ⟨rfl, rfl⟩
  go_wp2_with fail
  refine (end_ok _ _ _ _ _ _ _ _ hP3 hT2' (by simp) (by omega)).mono ?_
  rintro e w4 ⟨rfl, hP4, hT4, hs4, hK4⟩
  have hT3' := hT3.keep hK4 (by simp; omega)
  have hB4 := hB3.trans (hK4.below (B := w.heap.size) hB3.size (by simp; omega))
  clear hs4 hK4 hP4 hT2' hP3 hB3 hT3
  go_wp2_with fail
  refine (live_any _ _ _ _ _ hT4).mono ?_
  rintro e w' ⟨rfl, rfl⟩
  go_wp2_with fail
  refine (live_any _ _ _ _ _ hT3').mono ?_
  rintro e w' ⟨rfl, rfl⟩
  go_wp2_with fail
  go_ret
  exact ⟨rfl, hB4⟩
end Go.Proofs.Ytfipifjlmepooaa
