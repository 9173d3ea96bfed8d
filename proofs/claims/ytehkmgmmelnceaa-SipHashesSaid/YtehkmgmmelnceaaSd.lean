/- The contract of the reference's Sum, for every key and every string of at most a thousand bytes. -/
import Derived.Test.YtehkmgmmelnceaaSc
namespace Go.Proofs.Ytehkmgmmelnceaa
open Go.RowKit
set_option linter.unusedVariables false
set_option linter.unusedSimpArgs false
theorem le8_cons (l : List UInt8) (a n : Nat) : le8 l a (n + 1) = byteAt l a + le8 l (a + 1) n * 256 := by
  induction n with
  | zero => simp [le8]
  | succ n ih =>
    rw [le8, ih]
    rw [show le8 l (a + 1) (n + 1) = le8 l (a + 1) n + byteAt l (a + 1 + n) * 2 ^ (8 * n) from rfl]
    rw [Nat.add_mul, show a + (n + 1) = a + 1 + n by omega, show 8 * (n + 1) = 8 * n + 8 by omega, Nat.pow_add, ← Nat.mul_assoc]
    omega
/-- a state behind the words up to a place -/
def RS (k0 k1 : Int) (l : List UInt8) (k : Nat) (st : St) : Prop :=
  (k ≤ l.length ∧ st = stN k0 k1 l (k / 8)) ∨ (l.length < k ∧ st = mix (stN k0 k1 l (l.length / 8)) ((le8 l (8 * (l.length / 8)) 8 + l.length % 256 * 72057594037927936 : Nat) : Int))

set_option maxHeartbeats 2000000 in
set_option maxRecDepth 100000 in
theorem refSum_any (k0 k1 : Int) (s : ByteArray) (w : World) (h0 : 0 ≤ k0 ∧ k0 < 18446744073709551616) (h1 : 0 ≤ k1 ∧ k1 < 18446744073709551616) (hs : s.size ≤ 1000) :
    Calls Try.prog 13 #[.int .u64 k0, .int .u64 k1, .string s] w fun e w' => e = .returned (.int .u64 (sipZ k0 k1 s.data.toList)) ∧ Below w.heap.size w w' := by
  have hl : Hid (s.data.toList.length = s.size) := Lib.hid (by rw [Array.length_toList]; rfl)
  go_enter Try.func13, Try.ntmps13
  go_wp2_with fail
  have B1 := Blk.new w 64 #[.int .u64 (st0 k0 k1).1, .int .u64 (st0 k0 k1).2.1, .int .u64 (st0 k0 k1).2.2.1, .int .u64 (st0 k0 k1).2.2.2]
  have hW2 : Below w.heap.size w (w.alloc (.cells #[.int .u64 (st0 k0 k1).1, .int .u64 (st0 k0 k1).2.1, .int .u64 (st0 k0 k1).2.2.1, .int .u64 (st0 k0 k1).2.2.2] 64)) := (Below.refl _ _).alloc (Nat.le_refl _) _
  go_loopw [8] (fun i wr => ∃ (k : Nat) (st : St), k % 8 = 0 ∧ k ≤ s.size + 8 ∧ i = .int .i64 k ∧ RS k0 k1 s.data.toList k st ∧ Hid st.ok ∧ Blk wr w.heap.size 64 #[.int .u64 st.1, .int .u64 st.2.1, .int .u64 st.2.2.1, .int .u64 st.2.2.2] ∧ Below w.heap.size w wr) (fun i wr => s.size + 8 - (intOf i).toNat)
  case atStart => exact ⟨0, st0 k0 k1, rfl, by omega, rfl, .inl ⟨Nat.zero_le _, rfl⟩, stN_ok k0 k1 [] 0, B1, hW2⟩
  case round =>
    clear B1 hW2
    obtain ⟨k, st, hk8, hk, rfl, hR, hok, B, hW⟩ := hrel
    obtain ⟨⟨c0, c1, c2, c3⟩, f0, f1, f2, f3⟩ := four B
    by_cases hlt : k ≤ s.size
    · go_wp2_with fail
      go_loop [9, 10] (fun m i => ∃ j : Nat, j ≤ 8 ∧ i = .int .i64 ((j : Int) - 1) ∧ m = .int .u64 (le8 s.data.toList (k + j) (8 - j))) (fun _ i => (intOf i + 1).toNat)
      case atStart => exact ⟨8, by omega, rfl, rfl⟩
      case round =>
        obtain ⟨j, hj, rfl, rfl⟩ := hrel
        by_cases hj0 : 0 < j
        · obtain ⟨i, rfl⟩ : ∃ i, j = i + 1 := ⟨j - 1, by omega⟩
          rw [show ((i + 1 : Nat) : Int) - 1 = i by omega]
          have hc := le8_cons s.data.toList (k + i) (7 - i)
          rw [show 7 - i + 1 = 8 - i by omega, show k + i + 1 = k + (i + 1) by omega] at hc
          have hlt8 := le8_lt s.data.toList (k + (i + 1)) (7 - i)
          have hp : 2 ^ (8 * (7 - i)) ≤ 2 ^ 56 := Nat.pow_le_pow_right (by decide) (by omega)
          by_cases hi : k + i < s.size
          · have hb := byteAt_get s (k + i) hi
            have hb2 := byteAt_lt s.data.toList (k + i)
            have S := Lib.hid (show IntKind.u64.wrap (IntKind.u64.wrap ((le8 s.data.toList (k + (i + 1)) (7 - i) : Nat) * 256 : Int) + IntKind.u64.wrap ((s[k + i]'hi).toNat : Int)) = (le8 s.data.toList (k + i) (8 - i) : Int) by
              rw [hb, IntKind.wrap_u64, IntKind.wrap_u64, IntKind.wrap_u64, hc]
              generalize le8 s.data.toList (k + (i + 1)) (7 - i) = x at *
              generalize byteAt s.data.toList (k + i) = y at *
              generalize 2 ^ (8 * (7 - i)) = p at *
              omega)
            clear hc hlt8 hp hb hb2
            go_wp2
            refine ⟨⟨i, by omega, rfl, by rw [S.out]⟩, by simp [intOf]⟩
          · have hb2 := byteAt_ge s.data.toList (k + i) (by rw [hl.out]; omega)
            have S := Lib.hid (show IntKind.u64.wrap ((le8 s.data.toList (k + (i + 1)) (7 - i) : Nat) * 256 : Int) = (le8 s.data.toList (k + i) (8 - i) : Int) by
              rw [IntKind.wrap_u64, hc, hb2]
              generalize le8 s.data.toList (k + (i + 1)) (7 - i) = x at *
              generalize 2 ^ (8 * (7 - i)) = p at *
              omega)
            clear hc hlt8 hp hb2
            go_wp2
            refine ⟨⟨i, by omega, rfl, by rw [S.out]⟩, by simp [intOf]⟩
        · obtain rfl : j = 0 := by omega
          by_cases hend : s.size < k + 8
          · go_wp2_with fail
            obtain ⟨M, hM⟩ : ∃ M : Int, IntKind.u64.wrap ((le8 s.data.toList k 8 : Int) + (s.size : Int) % 256 * 72057594037927936) = M := ⟨_, rfl⟩
            rw [hM]
            have R2 : Hid (RS k0 k1 s.data.toList (k + 8) (mix st M)) := Lib.hid (by
              have hkk : k = 8 * (s.size / 8) := by omega
              have hz := byteAt_ge s.data.toList (k + 7) (by rw [hl.out]; omega)
              have h7 := le8_lt s.data.toList k 7
              have h8 : le8 s.data.toList k 8 = le8 s.data.toList k 7 := by
                rw [show le8 s.data.toList k 8 = le8 s.data.toList k 7 + byteAt s.data.toList (k + 7) * 2 ^ (8 * 7) from rfl, hz]; omega
              have hM2 : M = ((le8 s.data.toList k 8 + s.size % 256 * 72057594037927936 : Nat) : Int) := by
                rw [← hM, h8, IntKind.wrap_u64]
                generalize le8 s.data.toList k 7 = x at *
                omega
              rcases hR with ⟨_, hst⟩ | ⟨hgt, _⟩
              · refine .inr ⟨by rw [hl.out]; omega, ?_⟩
                rw [hl.out, hst, hM2, ← hkk, show k / 8 = s.size / 8 by omega]
              · rw [hl.out] at hgt; omega)
            clear hR hM
            refine (refRound_any _ _ _ _ _ hok.out.1 hok.out.2.1 hok.out.2.2.1 (xo_lt _ _)).mono ?_
            rintro e w1 ⟨rfl, hb1⟩
            go_wp2_with fail
            refine (refRound_s _ _ (rnd_ok _)).mono ?_
            rintro e w2 ⟨rfl, hb2⟩
            dsimp only [St.v]
            have B2 : Blk (wr.setCell ⟨w.heap.size, 3, none⟩ (.int .u64 (bits BinOp.xor IntKind.u64 st.2.2.2 M))) w.heap.size 64 #[.int .u64 st.1, .int .u64 st.2.1, .int .u64 st.2.2.1, .int .u64 (bits BinOp.xor IntKind.u64 st.2.2.2 M)] := by
              have h4 := B.set_ 3 (.int .u64 (bits BinOp.xor IntKind.u64 st.2.2.2 M))
              simpa using h4
            have hW1 : Below w.heap.size w (wr.setCell ⟨w.heap.size, 3, none⟩ (.int .u64 (bits BinOp.xor IntKind.u64 st.2.2.2 M))) := hW.setCell (p := ⟨w.heap.size, 3, none⟩) (Nat.le_refl _) _
            have hb12 := hb1.trans (hb2.mono hb1.size)
            have B3 := B2.below hb12 B2.lt
            have hW3 := hW1.trans (hb12.mono hW1.size)
            clear B B2 hW hW1 hb1 hb2 hb12 c0 c1 c2 c3 f0 f1 f2 f3
            obtain ⟨r, hr⟩ : ∃ r, rnd (rnd (st.1, st.2.1, st.2.2.1, xo st.2.2.2 M)) = r := ⟨_, rfl⟩
            rw [hr]
            have MX := Lib.hid (show mix st M = (bits .xor .u64 r.1 M, r.2.1, r.2.2.1, r.2.2.2) by rw [← hr]; rfl)
            clear hr
            obtain ⟨⟨c0, c1, c2, c3⟩, f0, f1, f2, f3⟩ := four B3
            go_wp2
            refine ⟨⟨k + 8, mix st M, by omega, by omega, by go_num, R2.out, mix_ok _ _, ?_, ?_⟩, by simp [intOf]; omega⟩
            · rw [MX.out]
              have h5 := (B3.put4 (.int .u64 r.1) (.int .u64 r.2.1) (.int .u64 r.2.2.1) (.int .u64 r.2.2.2)).set_ 0 (.int .u64 (bits .xor .u64 r.1 M))
              simpa using h5
            · exact (below_put4 hW3 (Nat.le_refl _) _ _ _ _).setCell (p := ⟨w.heap.size, 0, none⟩) (Nat.le_refl _) _
          · go_wp2_with fail
            obtain ⟨M, hM⟩ : ∃ M : Int, (le8 s.data.toList k 8 : Int) = M := ⟨_, rfl⟩
            rw [hM]
            have R2 : Hid (RS k0 k1 s.data.toList (k + 8) (mix st M)) := Lib.hid (by
              rcases hR with ⟨_, hst⟩ | ⟨hgt, _⟩
              · refine .inl ⟨by rw [hl.out]; omega, ?_⟩
                rw [hst, ← hM, show (k + 8) / 8 = k / 8 + 1 by omega]
                simp only [stN]
                rw [show 8 * (k / 8) = k by omega]
              · rw [hl.out] at hgt; omega)
            clear hR hM
            refine (refRound_any _ _ _ _ _ hok.out.1 hok.out.2.1 hok.out.2.2.1 (xo_lt _ _)).mono ?_
            rintro e w1 ⟨rfl, hb1⟩
            go_wp2_with fail
            refine (refRound_s _ _ (rnd_ok _)).mono ?_
            rintro e w2 ⟨rfl, hb2⟩
            dsimp only [St.v]
            have B2 : Blk (wr.setCell ⟨w.heap.size, 3, none⟩ (.int .u64 (bits BinOp.xor IntKind.u64 st.2.2.2 M))) w.heap.size 64 #[.int .u64 st.1, .int .u64 st.2.1, .int .u64 st.2.2.1, .int .u64 (bits BinOp.xor IntKind.u64 st.2.2.2 M)] := by
              have h4 := B.set_ 3 (.int .u64 (bits BinOp.xor IntKind.u64 st.2.2.2 M))
              simpa using h4
            have hW1 : Below w.heap.size w (wr.setCell ⟨w.heap.size, 3, none⟩ (.int .u64 (bits BinOp.xor IntKind.u64 st.2.2.2 M))) := hW.setCell (p := ⟨w.heap.size, 3, none⟩) (Nat.le_refl _) _
            have hb12 := hb1.trans (hb2.mono hb1.size)
            have B3 := B2.below hb12 B2.lt
            have hW3 := hW1.trans (hb12.mono hW1.size)
            clear B B2 hW hW1 hb1 hb2 hb12 c0 c1 c2 c3 f0 f1 f2 f3
            obtain ⟨r, hr⟩ : ∃ r, rnd (rnd (st.1, st.2.1, st.2.2.1, xo st.2.2.2 M)) = r := ⟨_, rfl⟩
            rw [hr]
            have MX := Lib.hid (show mix st M = (bits .xor .u64 r.1 M, r.2.1, r.2.2.1, r.2.2.2) by rw [← hr]; rfl)
            clear hr
            obtain ⟨⟨c0, c1, c2, c3⟩, f0, f1, f2, f3⟩ := four B3
            go_wp2
            refine ⟨⟨k + 8, mix st M, by omega, by omega, by go_num, R2.out, mix_ok _ _, ?_, ?_⟩, by simp [intOf]; omega⟩
            · rw [MX.out]
              have h5 := (B3.put4 (.int .u64 r.1) (.int .u64 r.2.1) (.int .u64 r.2.2.1) (.int .u64 r.2.2.2)).set_ 0 (.int .u64 (bits .xor .u64 r.1 M))
              simpa using h5
            · exact (below_put4 hW3 (Nat.le_refl _) _ _ _ _).setCell (p := ⟨w.heap.size, 0, none⟩) (Nat.le_refl _) _
    · have Z : Hid (sipZ k0 k1 s.data.toList = fin st) := Lib.hid (by
        rcases hR with ⟨hle, _⟩ | ⟨_, hst⟩
        · rw [hl.out] at hle; omega
        · rw [hst]; rfl)
      clear hR hk8 hk
      go_wp2_with fail
      refine (refRound_any _ _ _ _ _ hok.out.1 hok.out.2.1 (xo_lt _ _) hok.out.2.2.2).mono ?_
      rintro e w1 ⟨rfl, hb1⟩
      go_wp2_with fail
      refine (refRound_s _ _ (rnd_ok _)).mono ?_
      rintro e w2 ⟨rfl, hb2⟩
      go_wp2_with fail
      refine (refRound_s _ _ (rnd_ok _)).mono ?_
      rintro e w3 ⟨rfl, hb3⟩
      go_wp2_with fail
      refine (refRound_s _ _ (rnd_ok _)).mono ?_
      rintro e w4 ⟨rfl, hb4⟩
      dsimp only [St.v]
      have B2 : Blk (wr.setCell ⟨w.heap.size, 2, none⟩ (.int .u64 (bits BinOp.xor IntKind.u64 st.2.2.1 255))) w.heap.size 64 #[.int .u64 st.1, .int .u64 st.2.1, .int .u64 (bits BinOp.xor IntKind.u64 st.2.2.1 255), .int .u64 st.2.2.2] := by
        have h4 := B.set_ 2 (.int .u64 (bits BinOp.xor IntKind.u64 st.2.2.1 255))
        simpa using h4
      have hW1 : Below w.heap.size w (wr.setCell ⟨w.heap.size, 2, none⟩ (.int .u64 (bits BinOp.xor IntKind.u64 st.2.2.1 255))) := hW.setCell (p := ⟨w.heap.size, 2, none⟩) (Nat.le_refl _) _
      have hb12 := hb1.trans (hb2.mono hb1.size)
      have hb13 := hb12.trans (hb3.mono hb12.size)
      have hb14 := hb13.trans (hb4.mono hb13.size)
      have B3 := B2.below hb14 B2.lt
      have hW3 := hW1.trans (hb14.mono hW1.size)
      clear B B2 hW hW1 hb1 hb2 hb12 hb3 hb13 hb4 hb14 c0 c1 c2 c3 f0 f1 f2 f3
      obtain ⟨r, hr⟩ : ∃ r, rnd (rnd (rnd (rnd (st.1, st.2.1, xo st.2.2.1 255, st.2.2.2)))) = r := ⟨_, rfl⟩
      rw [hr]
      have MX := Lib.hid (show fin st = xo (xo (xo r.1 r.2.1) r.2.2.1) r.2.2.2 by rw [← hr]; rfl)
      clear hr
      obtain ⟨⟨c0, c1, c2, c3⟩, f0, f1, f2, f3⟩ := four B3
      go_wp2
      go_ret
      exact ⟨ret_int' (MX.out.symm.trans Z.out.symm), below_put4 hW3 (Nat.le_refl _) _ _ _ _⟩
end Go.Proofs.Ytehkmgmmelnceaa
