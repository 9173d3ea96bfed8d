/- The contract of sip.Sum, for every key and every string of at most a thousand bytes. -/
import Derived.Test.YtehkmgmmelnceaaSb
import Derived.StillTailTactics
namespace Go.Proofs.Ytehkmgmmelnceaa
open Go.RowKit
set_option linter.unusedVariables false
set_option linter.unusedSimpArgs false
def st0 (k0 k1 : Int) : St := (xo k0 8317987319222330741, xo k1 7237128888997146477, xo k0 7816392313619706465, xo k1 8387220255154660723)
/-- the state behind j whole words -/
def stN (k0 k1 : Int) (l : List UInt8) : Nat → St
  | 0 => st0 k0 k1
  | j + 1 => mix (stN k0 k1 l j) (le8 l (8 * j) 8)
theorem stN_ok (k0 k1 : Int) (l : List UInt8) (j : Nat) : (stN k0 k1 l j).ok := by
  cases j with
  | zero => exact ⟨xo_lt _ _, xo_lt _ _, xo_lt _ _, xo_lt _ _⟩
  | succ j => exact mix_ok _ _
def sipZ (k0 k1 : Int) (l : List UInt8) : Int :=
  fin (mix (stN k0 k1 l (l.length / 8)) ((le8 l (8 * (l.length / 8)) 8 + l.length % 256 * 72057594037927936 : Nat) : Int))
theorem le8_congr (l m : List UInt8) (a b n : Nat) (h : ∀ j, j < n → byteAt l (a + j) = byteAt m (b + j)) : le8 l a n = le8 m b n := by
  induction n with
  | zero => rfl
  | succ n ih =>
    simp only [le8]
    rw [ih (fun j hj => h j (by omega)), h n (by omega)]
theorem byteAt_extract (s : ByteArray) (a b j : Nat) (h : j < b - a) : byteAt (s.extract a b).data.toList j = byteAt s.data.toList (a + j) := by
  unfold byteAt
  rw [ByteArray.data_extract, Array.toList_extract, List.extract_eq_take_drop, List.getElem?_take, if_pos h, List.getElem?_drop]
theorem word_at (s : ByteArray) (k : Nat) (w : World) (h : k + 8 ≤ s.size) :
    Calls Try.prog 35 #[.string (s.extract k (k + 8))] w fun e w' => e = .returned (.int .u64 (le8 s.data.toList k 8)) ∧ w' = w := by
  have hz : (s.extract k (k + 8)).size = 8 := by rw [ByteArray.size_extract]; omega
  have e : le8 (s.extract k (k + 8)).data.toList 0 8 = le8 s.data.toList k 8 :=
    le8_congr _ _ _ _ _ fun j hj => by rw [Nat.zero_add, byteAt_extract s k (k + 8) j (by omega)]
  rw [← e]
  exact (word_any _ w hz).mono fun _ _ ⟨he, hw⟩ => ⟨he, hw.symm⟩
theorem last_at (s : ByteArray) (w : World) (h : s.size ≤ 1000) :
    Calls Try.prog 36 #[.string (s.extract (8 * (s.size / 8)) s.size), .int .i64 s.size] w fun e w' => e = .returned (.int .u64 ((le8 s.data.toList (8 * (s.size / 8)) 8 + s.size % 256 * 72057594037927936 : Nat) : Int)) ∧ w' = w := by
  have hz : (s.extract (8 * (s.size / 8)) s.size).size < 8 := by rw [ByteArray.size_extract]; omega
  have hl : s.data.toList.length = s.size := by rw [Array.length_toList]; rfl
  have hl2 : (s.extract (8 * (s.size / 8)) s.size).data.toList.length = s.size - 8 * (s.size / 8) := by
    rw [Array.length_toList]; show (s.extract _ _).size = _; rw [ByteArray.size_extract]; omega
  have e : lastN (s.extract (8 * (s.size / 8)) s.size).data.toList s.size = le8 s.data.toList (8 * (s.size / 8)) 8 + s.size % 256 * 72057594037927936 := by
    unfold lastN
    rw [le8_congr _ s.data.toList 0 (8 * (s.size / 8)) 8 fun j hj => ?_]
    rw [Nat.zero_add]
    by_cases hj2 : j < s.size - 8 * (s.size / 8)
    · exact byteAt_extract s _ _ j hj2
    · rw [byteAt_ge _ _ (by omega), byteAt_ge _ _ (by omega)]
  rw [← e]
  exact (last_any _ _ w hz (by omega)).mono fun _ _ ⟨he, hw⟩ => ⟨he, hw.symm⟩
theorem Blk.put4 {w : World} {g : Nat} {t : TypeId} {a b c d : Value} (h : Blk w g t #[a, b, c, d]) (a' b' c' d' : Value) :
    Blk ((((w.setCell ⟨g, 0, none⟩ a').setCell ⟨g, 1, none⟩ b').setCell ⟨g, 2, none⟩ c').setCell ⟨g, 3, none⟩ d') g t #[a', b', c', d'] := by
  have h4 := (((h.set_ 0 a').set_ 1 b').set_ 2 c').set_ 3 d'
  simpa using h4
theorem below_put4 {B : Nat} {w0 w : World} {g : Nat} (h : Below B w0 w) (hg : B ≤ g) (a' b' c' d' : Value) :
    Below B w0 ((((w.setCell ⟨g, 0, none⟩ a').setCell ⟨g, 1, none⟩ b').setCell ⟨g, 2, none⟩ c').setCell ⟨g, 3, none⟩ d') :=
  (((h.setCell (p := ⟨g, 0, none⟩) hg a').setCell (p := ⟨g, 1, none⟩) hg b').setCell (p := ⟨g, 2, none⟩) hg c').setCell (p := ⟨g, 3, none⟩) hg d'
set_option maxHeartbeats 1000000 in
theorem sum_any (k0 k1 : Int) (s : ByteArray) (w : World) (h0 : 0 ≤ k0 ∧ k0 < 18446744073709551616) (h1 : 0 ≤ k1 ∧ k1 < 18446744073709551616) (hs : s.size ≤ 1000) :
    Calls Try.prog 12 #[.agg #[.int .u64 k0, .int .u64 k1], .string s] w fun e w' => e = .returned (.int .u64 (sipZ k0 k1 s.data.toList)) ∧ Below w.heap.size w w' := by
  go_enter Try.func12, Try.ntmps12
  go_wp2_with fail
  refine (start_any k0 k1 _ h0 h1).mono ?_
  rintro e w1 ⟨rfl, hb1⟩
  dsimp only [St.v]
  have hW : Below w.heap.size w w1 := Below.trans ((Below.refl _ _).alloc (Nat.le_refl _) _) (hb1.mono (by simp))
  clear hb1
  go_wp2_with fail
  have B1 := Blk.new w1 65 #[.int .u64 (st0 k0 k1).1, .int .u64 (st0 k0 k1).2.1, .int .u64 (st0 k0 k1).2.2.1, .int .u64 (st0 k0 k1).2.2.2]
  have hW2 : Below w.heap.size w (w1.alloc (.cells #[.int .u64 (st0 k0 k1).1, .int .u64 (st0 k0 k1).2.1, .int .u64 (st0 k0 k1).2.2.1, .int .u64 (st0 k0 k1).2.2.2] 65)) := hW.alloc hW.size _
  have hsz := hW.size
  obtain ⟨g, hg⟩ : ∃ g, w1.heap.size = g := ⟨_, rfl⟩
  rw [hg] at B1 hsz ⊢
  go_loopw [7] (fun i wr => ∃ k : Nat, k % 8 = 0 ∧ k ≤ s.size ∧ i = .int .i64 k ∧ Blk wr g 65 #[.int .u64 (stN k0 k1 s.data.toList (k / 8)).1, .int .u64 (stN k0 k1 s.data.toList (k / 8)).2.1, .int .u64 (stN k0 k1 s.data.toList (k / 8)).2.2.1, .int .u64 (stN k0 k1 s.data.toList (k / 8)).2.2.2] ∧ Below w.heap.size w wr) (fun i wr => s.size - (intOf i).toNat)
  case atStart => exact ⟨0, rfl, Nat.zero_le _, rfl, B1, hW2⟩
  case round =>
    clear B1 hW2 hg hW
    obtain ⟨k, hk8, hk, rfl, B, hW⟩ := hrel
    have hok := Lib.hid (stN_ok k0 k1 s.data.toList (k / 8))
    obtain ⟨⟨c0, c1, c2, c3⟩, f0, f1, f2, f3⟩ := four B
    by_cases hlt : k + 8 ≤ s.size
    · go_wp2_with fail
      have E8 : IntKind.i64.wrap ((k : Int) + 8) = (k : Int) + 8 := IntWalk.i64_in _ (by omega)
      have E9 : ((k : Int) + 8).toNat = k + 8 := by omega
      have E10 : (0 : Int) ≤ (k : Int) + 8 := by omega
      have E11 : (k : Int) + 8 ≤ (s.size : Int) := by omega
      have E12 : (k : Int) ≤ (k : Int) + 8 := by omega
      go_still_tail 7, (by kernel_rfl)
      still_call (word_at s k _ hlt)
      refine wpStill_nil ?_
      clear E8 E9 E10 E11 E12
      change wpList _ _ _ _ _ wr.drew
      have Bd : Blk wr.drew g 65 #[.int .u64 (stN k0 k1 s.data.toList (k / 8)).1, .int .u64 (stN k0 k1 s.data.toList (k / 8)).2.1, .int .u64 (stN k0 k1 s.data.toList (k / 8)).2.2.1, .int .u64 (stN k0 k1 s.data.toList (k / 8)).2.2.2] := B
      have hWd : Below w.heap.size w wr.drew := hW.drew
      clear B hW c0 c1 c2 c3 f0 f1 f2 f3
      generalize wr.drew = w3 at *
      go_wp2_with fail
      refine (mixed_s _ _ _ hok.out).mono ?_
      rintro e w4 ⟨rfl, hb4⟩
      dsimp only [St.v]
      have B4 := Bd.below hb4 Bd.lt
      have hW4 : Below w.heap.size w w4 := hWd.trans (hb4.mono hWd.size)
      obtain ⟨⟨c0, c1, c2, c3⟩, f0, f1, f2, f3⟩ := four B4
      clear Bd hWd hb4
      have S : Hid (stN k0 k1 s.data.toList ((k + 8) / 8) = mix (stN k0 k1 s.data.toList (k / 8)) (le8 s.data.toList k 8)) := Lib.hid (by
        rw [show (k + 8) / 8 = k / 8 + 1 by omega]; simp only [stN]; rw [show 8 * (k / 8) = k by omega])
      clear hok
      generalize stN k0 k1 s.data.toList (k / 8) = st at *
      go_wp2
      refine ⟨⟨k + 8, by omega, by omega, by go_num, by rw [S.out]; exact B4.put4 _ _ _ _, below_put4 hW4 hsz _ _ _ _⟩, by simp [intOf]; omega⟩
    · have hkk : k = 8 * (s.size / 8) := by omega
      rw [show (s.size : Int) - (s.size : Int) % 8 = (k : Int) by omega]
      have HK := Lib.hid hkk
      have L := Lib.hid (last_at s wr.drew hs)
      rw [← hkk] at L
      have Z : Hid (sipZ k0 k1 s.data.toList = fin (mix (stN k0 k1 s.data.toList (k / 8)) ((le8 s.data.toList k 8 + s.size % 256 * 72057594037927936 : Nat) : Int))) := Lib.hid (by
        unfold sipZ
        have hl : s.data.toList.length = s.size := by rw [Array.length_toList]; rfl
        rw [hl, ← hkk, show s.size / 8 = k / 8 by omega])
      clear hkk hk8 hlt
      have E0 : (0 : Int) ≤ (k : Int) := by omega
      have E1 : (k : Int) ≤ (s.size : Int) := by omega
      go_wp2_with fail
      go_still_tail 7, (by kernel_rfl)
      still_call L.out
      refine wpStill_nil ?_
      change wpList _ _ _ _ _ wr.drew
      have Bd : Blk wr.drew g 65 #[.int .u64 (stN k0 k1 s.data.toList (k / 8)).1, .int .u64 (stN k0 k1 s.data.toList (k / 8)).2.1, .int .u64 (stN k0 k1 s.data.toList (k / 8)).2.2.1, .int .u64 (stN k0 k1 s.data.toList (k / 8)).2.2.2] := B
      have hWd : Below w.heap.size w wr.drew := hW.drew
      clear B hW c0 c1 c2 c3 f0 f1 f2 f3 L
      generalize wr.drew = w3 at *
      generalize le8 s.data.toList k 8 + s.size % 256 * 72057594037927936 = M at *
      go_wp2_with fail
      refine (mixed_s _ _ _ hok.out).mono ?_
      rintro e w4 ⟨rfl, hb4⟩
      dsimp only [St.v]
      have B4 := Bd.below hb4 Bd.lt
      have hW4 : Below w.heap.size w w4 := hWd.trans (hb4.mono hWd.size)
      obtain ⟨⟨c0, c1, c2, c3⟩, f0, f1, f2, f3⟩ := four B4
      clear Bd hWd hb4 hok
      generalize stN k0 k1 s.data.toList (k / 8) = st at *
      have hok : Hid (mix st M).ok := Lib.hid (mix_ok _ _)
      generalize mix st (M : Int) = st2 at *
      go_wp2_with fail
      refine (finished_s st2 _ hok.out).mono ?_
      rintro e w5 ⟨rfl, hb5⟩
      have hW5 := below_put4 hW4 hsz (.int .u64 st2.1) (.int .u64 st2.2.1) (.int .u64 st2.2.2.1) (.int .u64 st2.2.2.2)
      have hW6 := Lib.hid (hW5.trans (hb5.mono hW5.size))
      clear hW5 hb5 hW4 c0 c1 c2 c3 f0 f1 f2 f3 B4
      go_wp2
      go_ret
      exact ⟨ret_int' Z.out.symm, hW6.out⟩
end Go.Proofs.Ytehkmgmmelnceaa
