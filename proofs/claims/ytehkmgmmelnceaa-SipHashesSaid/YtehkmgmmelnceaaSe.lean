/- Contracts of sip.Of, the hashers and the example of the document. -/
import Derived.Test.YtehkmgmmelnceaaSd
import Derived.Laws.IdiomStrings
import Derived.Deep.RegionHeld3
namespace Go.Proofs.Ytehkmgmmelnceaa
open Go.RowKit
set_option linter.unusedVariables false
set_option linter.unusedSimpArgs false
theorem addr_add (b off j : Nat) : (⟨b, off, none⟩ : Addr).add j = ⟨b, off + j, none⟩ := by unfold Addr.add; split <;> simp_all

set_option maxHeartbeats 1000000 in
theorem of_no (a : Option Addr) (n cap : Nat) (w : World) (hn : ((n : Int) != 16) = true) :
    Calls Try.prog 14 #[.slice a n cap] w fun e w' => e = .returned (.tuple #[.agg #[.int .u64 0, .int .u64 0], .bool false]) ∧ Below w.heap.size w w' := by
  go_enter Try.func14, Try.ntmps14
  go_wp2
  refine bodyPost_ret (v := .tuple #[.agg #[.int .u64 0, .int .u64 0], .bool false]) (by simp [results, Try.results14, go_sem]) rfl ⟨rfl, ?_⟩
  repeat (first | ((with_reducible refine Below.setCell ?_ ?hp _); (case hp => simp)) | ((with_reducible refine Below.alloc ?_ ?hp _); (case hp => simp)) | (with_reducible exact Below.refl _ _))

set_option maxHeartbeats 1000000 in
theorem of_yes (b off cap : Nat) (l : List UInt8) (w : World) (hl : l.length = 16)
    (hc : ∀ j (hj : j < l.length), w.cell? ⟨b, off + j, none⟩ = some (.int .u8 (l[j].toNat : Int))) (hb : b < w.heap.size) :
    Calls Try.prog 14 #[.slice (some ⟨b, off, none⟩) 16 cap] w fun e w' => e = .returned (.tuple #[.agg #[.int .u64 (le8 l 0 8), .int .u64 (le8 l 8 8)], .bool true]) ∧ Below w.heap.size w w' := by
  have H := run_convert_bytes_back (P := Try.prog) (w.alloc (.cells #[.int .u64 0, .int .u64 0] 24)) 30 9 5 ⟨b, off, none⟩ cap l Try.underlying30 Try.underlying5 Try.underlying9 (fun j hj => by
    rw [addr_add, World.cell?_alloc_lt _ _ _ hb]; exact hc j hj)
  rw [hl] at H
  obtain ⟨s, hs⟩ : ∃ s : ByteArray, s = ⟨l.toArray⟩ := ⟨_, rfl⟩
  have hsz : s.size = 16 := by rw [hs]; show l.toArray.size = 16; simpa using hl
  have hsl : Hid (s.data.toList = l) := Lib.hid (by rw [hs])
  rw [← hs] at H
  clear hs hl hc
  have W1 := Lib.hid (word_at s 0 (w.alloc (.cells #[.int .u64 0, .int .u64 0] 24)).drew (by omega))
  have W2 := Lib.hid (word_at s 8 (w.alloc (.cells #[.int .u64 0, .int .u64 0] 24)).drew (by omega))
  rw [hsl.out] at W1 W2
  simp only [Nat.zero_add, Nat.reduceAdd] at W1 W2
  go_enter Try.func14, Try.ntmps14
  go_wp2_with fail
  go_still_tail 7, (by kernel_rfl)
  still_call W1.out
  repeat still_step
  still_call W2.out
  repeat still_step
  refine wpStill_nil ?_
  clear W1 W2 hsl
  change wpList _ _ _ _ _ (w.alloc (.cells #[.int .u64 0, .int .u64 0] 24)).drew
  go_wp2
  refine bodyPost_ret (v := .tuple #[.agg #[.int .u64 (le8 l 0 8), .int .u64 (le8 l 8 8)], .bool true]) (by simp [results, Try.results14, go_sem]) rfl ⟨rfl, ?_⟩
  repeat (first | ((with_reducible refine Below.setCell ?_ ?hp _); (case hp => simp)) | (with_reducible refine Below.drew ?_) | ((with_reducible refine Below.alloc ?_ ?hp _); (case hp => simp)) | (with_reducible exact Below.refl _ _))

/-- a mask's bits of a sum -/
def an (a b : Int) : Int := bits .and .u64 a b
theorem an_lt (a b : Int) : 0 ≤ an a b ∧ an a b < 18446744073709551616 := by
  unfold an bits; rw [IntKind.wrap_u64]; omega
theorem sipZ_lt (k0 k1 : Int) (l : List UInt8) : 0 ≤ sipZ k0 k1 l ∧ sipZ k0 k1 l < 18446744073709551616 := xo_lt _ _

set_option maxHeartbeats 1000000 in
theorem hash_any (k0 k1 m : Int) (s : ByteArray) (w : World) (h0 : 0 ≤ k0 ∧ k0 < 18446744073709551616) (h1 : 0 ≤ k1 ∧ k1 < 18446744073709551616) (hs : s.size ≤ 1000) :
    Calls Try.prog 15 #[.agg #[.int .u64 k0, .int .u64 k1, .int .u64 m], .string s] w fun e w' => e = .returned (.int .u64 (an (sipZ k0 k1 s.data.toList) m)) ∧ Below w.heap.size w w' := by
  go_enter Try.func15, Try.ntmps15
  go_wp2_with fail
  go_region_held3 (fun w' => w'.cell? ⟨w.heap.size, 0, none⟩ = some (.int .u64 k0) ∧ w'.cell? ⟨w.heap.size, 1, none⟩ = some (.int .u64 k1) ∧ w'.cell? ⟨w.heap.size, 2, none⟩ = some (.int .u64 m))
    (first | go_keep | (refine ⟨?_, ?_, ?_⟩ <;> (first | (rw [hb1.cell (by simp)]; simp [go_sem]))))
    (first | (go_at_call 12; refine (sum_any k0 k1 s _ h0 h1 hs).mono ?_; rintro e w1 ⟨rfl, hb1⟩))
  have hW : Below w.heap.size w w1 := Below.trans (((Below.refl _ _).alloc (Nat.le_refl _) _).drew) (hb1.mono (by simp))
  go_wp2
  go_ret
  exact ⟨rfl, hW⟩

set_option maxHeartbeats 1000000 in
theorem full_any (k0 k1 : Int) (w : World) :
    Calls Try.prog 16 #[.agg #[.int .u64 k0, .int .u64 k1]] w fun e w' => e = .returned (.agg #[.int .u64 k0, .int .u64 k1, .int .u64 18446744073709551615]) ∧ Below w.heap.size w w' := by
  go_enter Try.func16, Try.ntmps16
  go_wp2
  refine bodyPost_ret (v := .agg #[.int .u64 k0, .int .u64 k1, .int .u64 18446744073709551615]) (by simp [results, Try.results16, go_sem]) rfl ⟨rfl, ?_⟩
  repeat (first | ((with_reducible refine Below.setCell ?_ ?hp _); (case hp => simp)) | (with_reducible refine Below.drew ?_) | ((with_reducible refine Below.alloc ?_ ?hp _); (case hp => simp)) | (with_reducible exact Below.refl _ _))

theorem example_sum : sipZ 506097522914230528 1084818905618843912 [0, 1, 2, 3, 4, 5, 6, 7, 8, 9, 10, 11, 12, 13, 14] = 11613035633349379557 := by decide +kernel

theorem bytes_new (w : World) (l : List UInt8) (j : Nat) (hj : j < l.length) :
    (w.alloc (.cells (l.map fun b => Value.int .u8 (b.toNat : Int)).toArray 5)).cell? ⟨w.heap.size, j, none⟩ = some (.int .u8 (l[j].toNat : Int)) := by
  rw [(Blk.new w 5 _).cell j]
  simp [List.getElem?_eq_getElem hj]
set_option maxHeartbeats 1000000 in
theorem awake1 (w : World) :
    Calls Try.prog 11 #[] w fun e w' => e = .returned (.bool true) ∧ Below w.heap.size w w' := by
  have E := Lib.hid example_sum
  go_enter Try.func11, Try.ntmps11
  go_wp2_with fail
  refine (of_yes w.heap.size 0 16 [0, 1, 2, 3, 4, 5, 6, 7, 8, 9, 10, 11, 12, 13, 14, 15] _ rfl (fun j hj => by rw [Nat.zero_add]; exact bytes_new w [0, 1, 2, 3, 4, 5, 6, 7, 8, 9, 10, 11, 12, 13, 14, 15] j hj) (by simp)).mono ?_
  rintro e w1 ⟨rfl, hb1⟩
  rw [show le8 [0, 1, 2, 3, 4, 5, 6, 7, 8, 9, 10, 11, 12, 13, 14, 15] 0 8 = 506097522914230528 by decide +kernel, show le8 [0, 1, 2, 3, 4, 5, 6, 7, 8, 9, 10, 11, 12, 13, 14, 15] 8 8 = 1084818905618843912 by decide +kernel]
  have hW : Below w.heap.size w w1 := Below.trans (((Below.refl _ _).alloc (Nat.le_refl _) _)) (hb1.mono (by simp))
  have hsz := hW.size
  clear hb1
  go_wp2_with fail
  refine (sum_any 506097522914230528 1084818905618843912 _ _ (by decide) (by decide) (by decide)).mono ?_
  rintro e w2 ⟨rfl, hb2⟩
  have hW2 : Below w.heap.size w w2 := Below.trans (hW.alloc hsz _) (hb2.mono (by simp; omega))
  clear hb2 hW
  rw [E.out]
  go_wp2
  go_ret
  exact ⟨rfl, hW2⟩
end Go.Proofs.Ytehkmgmmelnceaa
